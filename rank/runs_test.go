package rank

import (
	"math"
	"math/rand/v2"
	"regexp"
	"slices"
	"strings"
	"testing"

	"ferrule/api"
	"ferrule/norm"
	"ferrule/rangeexpr"
	"ferrule/semver"
)

// The second way of telling whether a range has a version: by the places at which versions stand in the list that is known, and by the numbers of carets and tildes.

// stand is at which place a known version stands by precedence.
func stand(v api.Version) int {
	s := semver.Text(v)
	return slices.IndexFunc(versionsRising(), func(alike []string) bool { return slices.Contains(alike, s) })
}

func core(v api.Version) []uint64 { return []uint64{v.Major, v.Minor, v.Patch} }

// ahead tells whether v's numbers stand ahead of those of w with the one at a place one more, and 0 behind it.
func ahead(v, w api.Version, place int) bool {
	end := core(w)
	end[place]++
	clear(end[place+1:])
	return end[place] > api.MaxField || slices.Compare(core(v), end) < 0
}

func has(r api.Range, v api.Version) bool {
	of := func(one api.Range) bool { return has(one, v) }
	at, own := stand(v), 0
	if r.Kind >= api.RangeGe && r.Kind <= api.RangeTilde {
		own = stand(r.V)
	}
	switch r.Kind {
	case api.RangeAll:
		return true
	case api.RangeGe:
		return at >= own
	case api.RangeGt:
		return at > own
	case api.RangeLe:
		return at <= own
	case api.RangeLt:
		return at < own
	case api.RangeEq:
		return at == own
	case api.RangeNe:
		return at != own
	case api.RangeCaret:
		place := max(slices.IndexFunc(core(r.V), func(n uint64) bool { return n > 0 }), 0)
		if r.V.Major == 0 && r.V.Minor == 0 {
			place = 2
		}
		return at >= own && ahead(v, r.V, place)
	case api.RangeTilde:
		return at >= own && ahead(v, r.V, 1)
	case api.RangeAnd:
		return !slices.ContainsFunc(r.L, func(one api.Range) bool { return !of(one) })
	case api.RangeOr:
		return slices.ContainsFunc(r.L, of)
	}
	return !of(r.L[0])
}

// drawnRange is a right range of versions that are known.
func drawnRange(r *rand.Rand, levels int) api.Range {
	one := api.Range{Kind: r.IntN(12)}
	if levels == 0 {
		one.Kind = r.IntN(9)
	}
	n := 0
	switch {
	case one.Kind == api.RangeNot:
		n = 1
	case one.Kind > api.RangeTilde:
		n = 2 + r.IntN(3)
	case one.Kind != api.RangeAll:
		all := slices.Concat(versionsRising()...)
		one.V = version(all[r.IntN(len(all))])
	}
	for range n {
		one.L = append(one.L, drawnRange(r, levels-1))
	}
	return one
}

// drawnPieces is a range of pieces, or of all but these: so it has more runs than others.
func drawnPieces(r *rand.Rand) api.Range {
	all := slices.Concat(versionsRising()...)
	either := api.Range{Kind: api.RangeOr}
	for range 2 + r.IntN(9) {
		kinds := []int{api.RangeEq, api.RangeTilde, api.RangeCaret}
		either.L = append(either.L, api.Range{Kind: kinds[r.IntN(1+r.IntN(3))], V: version(all[r.IntN(len(all))])})
	}
	if r.IntN(2) == 0 {
		return not(either)
	}
	return either
}

// wantedRuns are the runs of a right range among versions that stand in order.
func wantedRuns(r api.Range, versions []api.Version) []api.Run {
	var b strings.Builder
	for _, v := range versions {
		if has(r, v) {
			b.WriteByte('1')
		} else {
			b.WriteByte('0')
		}
	}
	return rows(b.String())
}

// checkRuns holds the runs of any range against what norm tells of each rank's version by itself.
func checkRuns(t *testing.T, y *Table, p int, r api.Range) {
	t.Helper()
	was := ownRange(r)
	var has strings.Builder
	for k := range y.Size(p) {
		one, _ := y.Release(p, k)
		if norm.Has(r, one.V) {
			has.WriteByte('1')
		} else {
			has.WriteByte('0')
		}
	}
	if l := y.Runs(p, r); !slices.Equal(l, rows(has.String())) {
		t.Errorf("Runs(%d, %s) = %v, want %s of %s", p, rangeexpr.Text(r), l, has.String(), shown(y.index))
	}
	if !likeRange(r, was) {
		t.Errorf("%s is changed", shown(was))
	}
}

// ones are rows of ones.
var ones = regexp.MustCompile("1+")

// rows are the runs of which a text has a 1 at each rank.
func rows(has string) (l []api.Run) {
	for _, at := range ones.FindAllStringIndex(has, -1) {
		l = append(l, api.Run{From: at[0], To: at[1]})
	}
	return l
}

func run(from, to int) api.Run          { return api.Run{From: from, To: to} }
func runsOf(l ...api.Run) []api.Run     { return l }
func equal(a, b []api.Run) bool         { return slices.Equal(a, b) }
func tableOf(versions ...string) *Table { return New(indexOf(published("a", versions...))) }

// P11.2: runs by hand.
func TestRunsByHand(t *testing.T) {
	y := tableOf("2.0.0", "1.5.0!", "1.0.0+b", "1.0.0", "1.0.0-rc.1", "0.9.0!")
	// 0.9.0, 1.0.0-rc.1, 1.0.0, 1.0.0+b, 1.5.0, 2.0.0.
	for s, want := range map[string][]api.Run{
		"*": {run(0, 6)}, "!*": nil, ">=0.0.0": {run(0, 6)}, "<=2.0.0": {run(0, 6)}, "<3.0.0": {run(0, 6)}, "=0.9.0": {run(0, 1)}, "<1.0.0-0": {run(0, 1)}, "=2.0.0": {run(5, 6)}, ">1.5.0": {run(5, 6)}, ">2.0.0": nil, "<0.9.0": nil, "=1.4.0": nil,
		"=1.0.0": {run(2, 4)}, "=1.0.0+b": {run(2, 4)}, "=1.0.0+c": {run(2, 4)}, "!=1.0.0": {run(0, 2), run(4, 6)}, "!=1.0.0+c": {run(0, 2), run(4, 6)}, "=1.0.0-rc.1": {run(1, 2)}, "!=1.0.0-rc.1": {run(0, 1), run(2, 6)}, ">=1.0.0-rc.1": {run(1, 6)}, ">1.0.0-rc.1": {run(2, 6)}, "<1.0.0": {run(0, 2)}, "<1.0.0-rc.1": {run(0, 1)}, "<=1.0.0-rc.1": {run(0, 2)}, "<=1.0.0": {run(0, 4)}, ">1.0.0": {run(4, 6)},
		"^1.0.0": {run(2, 5)}, "^1.0.0-rc.1": {run(1, 5)}, "~1.0.0": {run(2, 4)}, "~1.0.0-0": {run(1, 4)}, "^0.9.0": {run(0, 1)}, "~0.9.0": {run(0, 1)}, "~1.5.0": {run(4, 5)}, "^2.0.0": {run(5, 6)}, "^3.0.0": nil,
		// Several, with ranks between them.
		"=0.9.0 || =1.0.0 || =2.0.0": {run(0, 1), run(2, 4), run(5, 6)}, "=2.0.0 || =0.9.0": {run(0, 1), run(5, 6)}, "!=1.5.0": {run(0, 4), run(5, 6)}, "<1.0.0-rc.1 || >1.0.0-rc.1": {run(0, 1), run(2, 6)}, "=1.0.0-rc.1 || =1.5.0": {run(1, 2), run(4, 5)},
		// They would touch: no rank is between them.
		"=0.9.0 || =1.0.0-rc.1": {run(0, 2)}, "<=1.0.0 || >=1.5.0": {run(0, 6)}, "!=1.4.0": {run(0, 6)}, "!=1.0.1, !=1.4.0, !=0.1.0, !=3.0.0": {run(0, 6)}, "=1.0.0 || =1.5.0": {run(2, 5)}, "=1.0.0-rc.1 || =1.0.0 || =0.1.0 || =7.0.0": {run(1, 4)}, "<=0.9.0 || >0.9.0": {run(0, 6)}, "<0.9.0 || =1.0.0-rc.0 || >2.0.0": nil,
		// Nothing lies in them that there could be.
		">1.0.0, <1.0.1-0": nil, ">1.0.0, <1.0.0": nil, ">1.0.0, <1.0.1-0 || =2.0.0": {run(5, 6)},
	} {
		if l := y.Runs(0, expr(s)); !equal(l, want) {
			t.Errorf("Runs of %s: %v, want %v", s, l, want)
		}
		// Of none there are none, whatever stands at the other numbers.
		for _, p := range []int{math.MinInt, -1, 1, 2, math.MaxInt} {
			if l := y.Runs(p, expr(s)); len(l) != 0 {
				t.Errorf("Runs(%d, %s) = %v", p, s, l)
			}
		}
	}
}

// P11.2, P11.3: each kind of range with each version, over all versions, over every other one, over the first and the last by itself, and over none.
func TestRunsOfEachRange(t *testing.T) {
	all := slices.Concat(versionsRising()...)
	var even, odd []string
	for i, s := range all {
		if i%2 == 0 {
			even = append(even, s)
		} else {
			odd = append(odd, s)
		}
	}
	for _, l := range [][]string{all, even, odd, all[:1], all[len(all)-1:], nil} {
		own := each(l, version)
		reversed := slices.Clone(l)
		slices.Reverse(reversed)
		y := tableOf(reversed...)
		for kind := range api.RangeTilde + 1 {
			for _, s := range all {
				r := api.Range{Kind: kind}
				if kind != api.RangeAll {
					r.V = version(s)
				}
				for _, r := range []api.Range{r, not(r)} {
					if got, want := y.Runs(0, r), wantedRuns(r, own); !equal(got, want) {
						t.Fatalf("Runs of %s: %v, want %v of %v", rangeexpr.Text(r), got, want, l)
					}
				}
			}
		}
	}
}

// P11.2: what isn't right has no runs.
func TestRunsOfWrongRanges(t *testing.T) {
	y := tableOf(slices.Concat(versionsRising()...)...)
	for _, r := range wrongRanges() {
		was := ownRange(r)
		if l := y.Runs(0, r); len(l) != 0 {
			t.Errorf("Runs(%s) = %v", shown(r), l)
		}
		if !likeRange(r, was) {
			t.Errorf("%s is changed", shown(was))
		}
	}
}

// P11.2, P11.3: drawn ranges over drawn packages: by places, and by what norm tells; and what In tells of each rank.
func TestRunsOfDrawnRanges(t *testing.T) {
	r := rand.New(rand.NewPCG(11, 4))
	several, touching := 0, 0
	for range 250 {
		x := drawnIndex(r)
		y := New(x)
		for p, own := range wantedPacks(x) {
			one := drawnRange(r, 1+r.IntN(3))
			if r.IntN(2) == 0 {
				one = drawnPieces(r)
			}
			versions := each(own.Releases, func(r api.Release) api.Version { return r.V })
			l, want := y.Runs(p, one), wantedRuns(one, versions)
			if !equal(l, want) {
				t.Fatalf("Runs of %s: %v, want %v of %s", rangeexpr.Text(one), l, want, shown(versions))
			}
			checkRuns(t, y, p, one)
			checkIn(t, l, one, versions)
			if len(l) > 2 {
				several++
			}
			if len(l) == 1 && len(versions) > 3 && one.Kind == api.RangeOr {
				touching++
			}
		}
	}
	if several < 50 || touching < 50 {
		t.Errorf("too few have several runs, or one alone: %d and %d", several, touching)
	}
}

// checkIn asks of each rank, and of some that there aren't, whether it is in a range's runs.
func checkIn(t *testing.T, l []api.Run, r api.Range, versions []api.Version) {
	t.Helper()
	for k, v := range versions {
		if In(l, k) != has(r, v) {
			t.Errorf("In(%v, %d) = %v", l, k, In(l, k))
		}
	}
	for _, k := range []int{math.MinInt, -1, len(versions), len(versions) + 1, math.MaxInt} {
		if In(l, k) {
			t.Errorf("In(%v, %d)", l, k)
		}
	}
	for i, one := range l {
		if one.From >= one.To || one.From < 0 || one.To > len(versions) || i > 0 && l[i-1].To >= one.From {
			t.Errorf("%v are no runs", l)
		}
	}
}

// P11.3: many ranks and many spans: each is passed once, so that even these end soon.
func TestRunsOfMany(t *testing.T) {
	const many = 20000
	var p api.Pack
	either := api.Range{Kind: api.RangeOr}
	var want []api.Run
	p.Name = "a"
	for i := range many {
		v := api.Version{Minor: uint64(i)}
		p.Releases = append(p.Releases, api.Release{V: v})
		// Two of three, of which one has no rank between it and the next one.
		if i%3 != 0 {
			either.L = append(either.L, api.Range{Kind: api.RangeEq, V: v})
		}
		if i%3 == 1 {
			want = append(want, run(i, min(i+2, many)))
		}
	}
	y := New(indexOf(p))
	slices.Reverse(either.L)
	if l := y.Runs(0, either); !equal(l, want) {
		t.Errorf("%s", shown(l))
	}
	if l := y.Runs(0, api.Range{}); !equal(l, runsOf(run(0, many))) {
		t.Errorf("%s", shown(l))
	}
	if l := y.Runs(0, expr("<0.1.0 || >=0.19999.0")); !equal(l, runsOf(run(0, 1), run(many-1, many))) {
		t.Errorf("%s", shown(l))
	}
}

// P11.2: In of whatever rows.
func TestIn(t *testing.T) {
	for _, c := range []struct {
		l     []api.Run
		ranks string
	}{
		{nil, "..........."}, {runsOf(), "..........."}, {runsOf(run(0, 0)), "..........."}, {runsOf(run(3, 3)), "..........."}, {runsOf(run(5, 2)), "..........."}, {runsOf(run(9, -9)), "..........."},
		{runsOf(run(1, 3)), "..11......."}, {runsOf(run(0, 1)), ".1........."}, {runsOf(run(-1, 1)), "11........."}, {runsOf(run(-7, 99)), "11111111111"}, {runsOf(run(8, 9)), ".........1."},
		{runsOf(run(1, 3), run(5, 6)), "..11..1...."}, {runsOf(run(5, 6), run(1, 3)), "..11..1...."}, {runsOf(run(1, 3), run(3, 5)), "..1111....."}, {runsOf(run(1, 5), run(2, 7)), "..111111..."}, {runsOf(run(1, 8), run(3, 4)), "..1111111.."}, {runsOf(run(2, 3), run(2, 3), run(2, 3)), "...1......."},
		{runsOf(run(5, 2), run(2, 2), run(7, 8)), "........1.."}, {runsOf(run(4, 6), run(5, 2), run(0, 0)), ".....11...."}, {runsOf(run(3, 1), run(6, 4), run(9, 9)), "..........."},
		{runsOf(run(math.MinInt, 2)), "111........"}, {runsOf(run(7, math.MaxInt)), "........111"}, {runsOf(run(math.MinInt, math.MaxInt)), "11111111111"}, {runsOf(run(math.MaxInt, math.MinInt)), "..........."}, {runsOf(run(math.MinInt, math.MinInt)), "..........."},
	} {
		was := slices.Clone(c.l)
		for i := range c.ranks {
			// The ranks from -1 on.
			if got := In(c.l, i-1); got != (c.ranks[i] == '1') {
				t.Errorf("In(%v, %d) = %v", c.l, i-1, got)
			}
		}
		if !equal(c.l, was) {
			t.Errorf("%v is changed: %v", was, c.l)
		}
	}
	for _, c := range []struct {
		one  api.Run
		rank int
		want bool
	}{
		{run(math.MinInt, math.MinInt+1), math.MinInt, true}, {run(math.MinInt, math.MaxInt), math.MinInt, true}, {run(math.MinInt, math.MaxInt), math.MaxInt, false}, {run(math.MaxInt-1, math.MaxInt), math.MaxInt - 1, true}, {run(math.MaxInt, math.MaxInt), math.MaxInt, false}, {run(1<<53, 1<<53+1), 1 << 53, true}, {run(1<<53, 1<<53+1), 1<<53 + 1, false}, {run(0, 1), 1 << 32, false},
	} {
		if got := In(runsOf(run(3, 1), c.one), c.rank); got != c.want {
			t.Errorf("In(%v, %d) = %v", c.one, c.rank, got)
		}
	}
}

// P11.2: drawn rows, against the sum of all ranks that each of them has.
func TestInDrawnRows(t *testing.T) {
	r := rand.New(rand.NewPCG(11, 5))
	for range 2000 {
		var l []api.Run
		ranks := map[int]int{}
		for range r.IntN(5) {
			one := run(r.IntN(24)-4, r.IntN(24)-4)
			l = append(l, one)
			for k := one.From; k < one.To; k++ {
				ranks[k]++
			}
		}
		for k := -6; k < 26; k++ {
			if In(l, k) != (ranks[k] > 0) {
				t.Fatalf("In(%v, %d) = %v", l, k, In(l, k))
			}
		}
	}
}
