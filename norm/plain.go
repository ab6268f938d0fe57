package norm

import (
	"ferrule/api"
	"ferrule/prec"
	"ferrule/rangeexpr"
	"ferrule/span"
)

// Plain is the plain range of a set; of one that isn't normal that of its normal one.
func Plain(l []api.Span) api.Range {
	// Of a normal set too: its answer is new memory, and each of its cuts is told once at most, so that a plain range's versions share none.
	l = span.Normal(l)
	if len(l) == 0 {
		return api.Range{Kind: api.RangeNot, L: []api.Range{{Kind: api.RangeAll}}}
	}
	return joined(api.RangeOr, pieces(l))
}

// Simple is the plain range of a range's set; the zero value, if the range isn't right.
func Simple(r api.Range) api.Range {
	if !rangeexpr.Good(r) {
		return api.Range{}
	}
	return Plain(set(r))
}

// pieces is the ranges of a normal set's pieces, from the left.
func pieces(l []api.Span) []api.Range {
	ends := ranked(l)
	var all []api.Range
	to := 0
next:
	if to == len(l) {
		return all
	}
	from := to
further:
	to++
	// Cuts of one rank, a Hi and the Lo behind it, leave out just the versions that stand alike.
	if to < len(l) && imag(ends[to-1]) == real(ends[to]) {
		goto further
	}
	all = append(all, piece(l[from:to], ends[from]))
	goto next
}

// ranked is the ends of a normal set's spans: of each span a complex number, its Lo's rank and its Hi's. Cuts of versions that stand alike have one rank, each other cut has one more than the cut ahead of it.
func ranked(l []api.Span) []complex128 {
	ends := make([]complex128, len(l))
	var last api.Cut
	i, rank := 0, 0.0
next:
	if i == len(l) {
		return ends
	}
	lo := rank + rise(last, l[i].Lo)
	rank = lo + rise(l[i].Lo, l[i].Hi)
	ends[i] = complex(lo, rank)
	last = l[i].Hi
	i++
	goto next
}

// rise is by how much the rank of a cut is above that of the cut ahead of it.
func rise(a, b api.Cut) float64 {
	if a.Kind == api.CutAhead && b.Kind == api.CutBehind && prec.Compare(a.V, b.V) == 0 {
		return 0
	}
	return 1
}

// piece is the range of a piece, of whose first span the ends are given.
func piece(l []api.Span, first complex128) api.Range {
	lo, hi := l[0].Lo, l[len(l)-1].Hi
	// A span of one rank is a piece of its own: what comes next isn't of that rank.
	if real(first) == imag(first) {
		return api.Range{Kind: api.RangeEq, V: lo.V}
	}
	var parts []api.Range
	switch lo.Kind {
	case api.CutAhead:
		parts = append(parts, api.Range{Kind: api.RangeGe, V: lo.V})
	case api.CutBehind:
		parts = append(parts, api.Range{Kind: api.RangeGt, V: lo.V})
	}
	switch hi.Kind {
	case api.CutAhead:
		parts = append(parts, api.Range{Kind: api.RangeLt, V: hi.V})
	case api.CutBehind:
		parts = append(parts, api.Range{Kind: api.RangeLe, V: hi.V})
	}
	for _, s := range l[:len(l)-1] {
		parts = append(parts, api.Range{Kind: api.RangeNe, V: s.Hi.V})
	}
	return joined(api.RangeAnd, parts)
}

// joined is a range of a kind that has all parts; of one part it, of none all versions.
func joined(kind int, parts []api.Range) api.Range {
	switch len(parts) {
	case 0:
		return api.Range{Kind: api.RangeAll}
	case 1:
		return parts[0]
	}
	return api.Range{Kind: kind, L: parts}
}
