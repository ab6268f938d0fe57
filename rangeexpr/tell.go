package rangeexpr

import (
	"strings"

	"ferrule/api"
	"ferrule/semver"
)

// level is a range whose expression is being told: how many of its ones are, and what stands behind the last one.
type level struct {
	r    *api.Range
	told int
	end  string
}

// Text is an expression of a range.
func Text(r api.Range) string {
	var t strings.Builder
	t.WriteString(mark(r))
	// A list, and no function that calls itself: a range that nobody read may be nested deeper than the calls that a stack has room for.
	levels := []level{{r: &r}}
next:
	if len(levels) == 0 {
		return t.String()
	}
	l := &levels[len(levels)-1]
	ones := within(l.r)
	if l.told == len(ones) {
		t.WriteString(l.end)
		levels = levels[:len(levels)-1]
		goto next
	}
	one := &ones[l.told]
	t.WriteString(ahead(l, one.Kind))
	l.told++
	inner := level{r: one}
	if bracketed(l.r.Kind, one.Kind) {
		t.WriteString(opened)
		inner.end = closed
	}
	t.WriteString(mark(*one))
	levels = append(levels, inner)
	goto next
}

// mark is what a range's expression begins with, ahead of its ones: all of it, if it has none.
func mark(r api.Range) string {
	switch {
	case r.Kind == api.RangeAll:
		return whatever
	case r.Kind == api.RangeAnd || r.Kind == api.RangeOr:
		return ""
	case r.Kind == api.RangeNot:
		return no
	case ofVersion(r.Kind):
		return ops[r.Kind-api.RangeGe] + semver.Text(r.V)
	}
	return semver.Text(r.V)
}

// within is the ones of which a range's expression tells: of no sign of not more than one.
func within(r *api.Range) []api.Range {
	switch r.Kind {
	case api.RangeAnd, api.RangeOr:
		return r.L
	case api.RangeNot:
		return r.L[:min(1, len(r.L))]
	}
	return nil
}

// ahead is what stands ahead of a level's next one, brackets apart.
func ahead(l *level, kind int) string {
	switch {
	// Side by side both would be the op !=.
	case l.r.Kind == api.RangeNot && kind == api.RangeEq:
		return " "
	case l.told == 0:
		return ""
	case l.r.Kind == api.RangeOr:
		return " " + either + " "
	}
	return both + " "
}

// bracketed tells whether a one of a kind stands in brackets within a range of another.
func bracketed(outer, kind int) bool {
	return kind == api.RangeOr || kind == api.RangeAnd && outer != api.RangeOr
}

// ofVersion tells whether a kind's version counts.
func ofVersion(kind int) bool {
	return api.RangeGe <= kind && kind <= api.RangeTilde
}

// Good tells whether a range is right.
func Good(r api.Range) bool {
	return good(r, 0)
}

// good tells whether a range is right whose ones stand deep brackets and signs of not deep. Each second call within another one is deeper, so that the calls end soon, however deep the range is nested.
func good(r api.Range, deep int) bool {
	if deep > api.MaxDeep || !fits(r) {
		return false
	}
	for _, one := range r.L {
		if !good(one, deep+opens(r.Kind, one.Kind)) {
			return false
		}
	}
	return true
}

// fits tells whether a range's Kind is one, and its version and how many ones it has are as that Kind asks.
func fits(r api.Range) bool {
	if ofVersion(r.Kind) {
		return semver.Good(r.V) && len(r.L) == 0
	}
	if !semver.Same(r.V, api.Version{}) {
		return false
	}
	switch r.Kind {
	case api.RangeAll:
		return len(r.L) == 0
	case api.RangeAnd, api.RangeOr:
		return len(r.L) >= 2
	case api.RangeNot:
		return len(r.L) == 1
	}
	return false
}

// opens is how many brackets and signs of not a range opens around a one of a kind.
func opens(outer, kind int) int {
	n := 0
	if outer == api.RangeNot {
		n++
	}
	if bracketed(outer, kind) {
		n++
	}
	return n
}

// Same tells whether two ranges have the same kinds, versions and ranges.
func Same(a, b api.Range) bool {
	// A list for the same reason as Text's.
	todo := [][2][]api.Range{{{a}, {b}}}
next:
	if len(todo) == 0 {
		return true
	}
	x, y := todo[len(todo)-1][0], todo[len(todo)-1][1]
	todo = todo[:len(todo)-1]
	for i := range x {
		if x[i].Kind != y[i].Kind || !semver.Same(x[i].V, y[i].V) || len(x[i].L) != len(y[i].L) {
			return false
		}
		if len(x[i].L) > 0 {
			todo = append(todo, [2][]api.Range{x[i].L, y[i].L})
		}
	}
	goto next
}
