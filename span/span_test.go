package span

import (
	"math"
	"slices"
	"strings"
	"testing"

	"ferrule/api"
	"ferrule/semver"
)

// known is a cut of which it is known whether it is right, and where it stands among all the right ones here.
type known struct {
	cut   api.Cut
	right bool
	place int
}

func low() api.Cut  { return api.Cut{Kind: api.CutLow} }
func high() api.Cut { return api.Cut{Kind: api.CutHigh} }

func read(s string) api.Version {
	v, at, e := semver.Read(s)
	if e != api.OK {
		panic(s + " isn't read at " + string(rune('0'+at)))
	}
	return v
}

func ahead(s string) api.Cut  { return api.Cut{Kind: api.CutAhead, V: read(s)} }
func behind(s string) api.Cut { return api.Cut{Kind: api.CutBehind, V: read(s)} }

func between(lo, hi api.Cut) api.Span { return api.Span{Lo: lo, Hi: hi} }

func set(l ...api.Span) []api.Span { return l }

func all() []api.Span { return set(between(low(), high())) }

// rising is texts of versions without builds, each ahead of the next one by precedence.
func rising() []string {
	return []string{
		"0.0.0-0", "0.0.0", "0.0.1-0", "0.1.0", "1.0.0-0", "1.0.0-2", "1.0.0-10", "1.0.0-a", "1.0.0-a.0", "1.0.0-aa", "1.0.0-rc.2", "1.0.0-rc.10", "1.0.0",
		"1.0.1-0", "1.0.1", "2.0.0-0", "2.0.0", "9.9.9", "10.0.0", "9223372036854775807.9223372036854775807.9223372036854775807",
	}
}

// rightCuts are the cuts of versions, from the lowest to the highest: place 0, two a version, and the last place.
func rightCuts(versions []string) []known {
	l := []known{{low(), true, 0}}
	for _, s := range versions {
		l = append(l, known{ahead(s), true, len(l)}, known{behind(s), true, len(l) + 1})
	}
	return append(l, known{high(), true, len(l)})
}

// wrongVersions are versions that aren't right, builds apart.
func wrongVersions() []api.Version {
	return []api.Version{
		{Major: 1 << 63}, {Minor: math.MaxUint64}, {Major: 1, Patch: 1 << 63}, {Major: 1, Pre: []string{""}}, {Major: 1, Pre: []string{"01"}}, {Pre: []string{"a", "+"}},
		{Major: 2, Pre: slices.Repeat([]string{"a"}, api.MaxParts+1)}, {Major: 2, Pre: []string{strings.Repeat("a", api.MaxIdent+1)}}, {Pre: []string{"a.b"}}, {Minor: 1, Pre: []string{"\xff"}},
	}
}

// wrongCuts are cuts that aren't right: of a Kind that is none, of a version that isn't right or has a build, of a version where none counts.
func wrongCuts() []known {
	var l []known
	wrong := func(kind int, v api.Version) { l = append(l, known{cut: api.Cut{Kind: kind, V: v}}) }
	for _, kind := range []int{-1, 4, 5, 9, -9, math.MinInt, math.MaxInt, 256, 257, 1 << 32, 1<<32 + 1} {
		wrong(kind, api.Version{})
		wrong(kind, read("1.0.0"))
	}
	for _, kind := range []int{api.CutAhead, api.CutBehind} {
		for _, v := range wrongVersions() {
			wrong(kind, v)
		}
		for _, s := range []string{"0.0.0+0", "1.0.0+b", "1.0.0-rc.2+b.1", "9.9.9+00"} {
			wrong(kind, read(s))
		}
		wrong(kind, api.Version{Major: 1, Build: []string{""}})
	}
	for _, kind := range []int{api.CutLow, api.CutHigh} {
		for _, s := range []string{"1.0.0", "0.1.0", "0.0.1", "0.0.0-0", "0.0.0+b", "9.9.9-a+b"} {
			wrong(kind, read(s))
		}
		wrong(kind, wrongVersions()[0])
		wrong(kind, api.Version{Pre: []string{""}})
		wrong(kind, api.Version{Build: []string{""}})
	}
	return l
}

func knownCuts() []known { return append(rightCuts(rising()), wrongCuts()...) }

func sign(a, b int) int {
	switch {
	case a < b:
		return -1
	case a > b:
		return 1
	}
	return 0
}

// wantedCompare is the second way of comparing: right cuts by their known places.
func wantedCompare(a, b known) int {
	if a.right && b.right {
		return sign(a.place, b.place)
	}
	return sign(a.cut.Kind, b.cut.Kind)
}

// pair is a span of known cuts.
type pair struct{ lo, hi known }

func spans(l []pair) []api.Span {
	var s []api.Span
	for _, p := range l {
		s = append(s, between(p.lo.cut, p.hi.cut))
	}
	return s
}

// pairs are all spans between cuts, whichever way round.
func pairs(l []known) []pair {
	var all []pair
	for _, lo := range l {
		for _, hi := range l {
			all = append(all, pair{lo, hi})
		}
	}
	return all
}

// gaps is the second way of telling sets: which of the gaps between one right cut and the next one are in it, by bits.
type gaps uint64

// gapsOf is the gaps between the cuts of the spans that count.
func gapsOf(l []pair) gaps {
	var g gaps
	for _, p := range l {
		if p.lo.right && p.hi.right {
			for i := p.lo.place; i < p.hi.place; i++ {
				g |= 1 << i
			}
		}
	}
	return g
}

// runs is the normal set of gaps between cuts: a span for each row of gaps.
func (g gaps) runs(cuts []known) []pair {
	var l []pair
	for i := 0; i < len(cuts)-1; i++ {
		if g>>i&1 == 0 {
			continue
		}
		from := i
		for i < len(cuts)-1 && g>>i&1 == 1 {
			i++
		}
		l = append(l, pair{cuts[from], cuts[i]})
	}
	return l
}

func (g gaps) set(cuts []known) []api.Span { return spans(g.runs(cuts)) }

// whole is all gaps between cuts.
func whole(cuts []known) gaps { return 1<<(len(cuts)-1) - 1 }

func likeVersion(a, b api.Version) bool {
	return a.Major == b.Major && a.Minor == b.Minor && a.Patch == b.Patch && slices.Equal(a.Pre, b.Pre) && slices.Equal(a.Build, b.Build)
}

func likeCut(a, b api.Cut) bool { return a.Kind == b.Kind && likeVersion(a.V, b.V) }

// like compares field by field, so that nothing that is tested is taken for granted.
func like(a, b []api.Span) bool {
	return slices.EqualFunc(a, b, func(x, y api.Span) bool { return likeCut(x.Lo, y.Lo) && likeCut(x.Hi, y.Hi) })
}

// deepCopy is a list in memory of its own.
func deepCopy(l []api.Span) []api.Span {
	var c []api.Span
	for _, s := range l {
		for _, p := range []*api.Cut{&s.Lo, &s.Hi} {
			p.V.Pre, p.V.Build = append([]string(nil), p.V.Pre...), append([]string(nil), p.V.Build...)
		}
		c = append(c, s)
	}
	return c
}

// some is cuts few enough that all sets of them can be gone through: cuts of three versions, and between two of them none other stands (1.0.0 and 1.0.1-0).
func some() []known { return rightCuts([]string{"1.0.0-rc.1", "1.0.0", "1.0.1-0"}) }

// fewWrong is one wrong cut of each sort.
func fewWrong() []known {
	var l []known
	for _, c := range []api.Cut{{Kind: -1}, {Kind: 4}, {Kind: api.CutLow, V: read("1.0.0")}, {Kind: api.CutHigh, V: read("0.0.0+b")}, ahead("1.0.0+b"), behind("1.0.0-rc.1+b"), {Kind: api.CutAhead, V: api.Version{Major: 1 << 63}}, {Kind: api.CutBehind, V: api.Version{Major: 1, Pre: []string{"01"}}}} {
		l = append(l, known{cut: c})
	}
	return l
}

// P5.1: cuts of each Kind, right ones and wrong ones, each against each.
func TestCompareTellsHowCutsStand(t *testing.T) {
	l := knownCuts()
	for _, a := range l {
		for _, b := range l {
			if got, want := Compare(a.cut, b.cut), wantedCompare(a, b); got != want {
				t.Errorf("Compare(%.80v, %.80v) = %d, want %d", a.cut, b.cut, got, want)
			}
		}
	}
}

// P5.1: what the chapter's words say of the kinds, by hand.
func TestCompareOfKinds(t *testing.T) {
	built := api.Cut{Kind: api.CutAhead, V: read("9.0.0+b")}
	for _, c := range []struct {
		a, b api.Cut
		want int
	}{
		{low(), low(), 0}, {high(), high(), 0}, {low(), high(), -1}, {low(), ahead("0.0.0-0"), -1}, {low(), behind("0.0.0-0"), -1}, {ahead("9.9.9"), high(), -1}, {behind("9.9.9"), high(), -1},
		{ahead("1.0.0"), ahead("1.0.0"), 0}, {behind("1.0.0"), behind("1.0.0"), 0}, {ahead("1.0.0"), behind("1.0.0"), -1}, {ahead("1.0.0-a.1"), behind("1.0.0-a.1"), -1},
		{behind("1.0.0"), ahead("1.0.1"), -1}, {ahead("1.0.0"), behind("1.0.1"), -1}, {behind("1.0.0-rc.2"), ahead("1.0.0-rc.10"), -1}, {behind("1.0.0-rc.10"), ahead("1.0.0"), -1}, {behind("1.0.0"), ahead("1.0.1-0"), -1},
		{built, ahead("1.0.0"), 0}, {built, ahead("9.9.9"), 0}, {built, built, 0}, {built, behind("1.0.0"), -1}, {built, low(), 1}, {built, high(), -1},
		{api.Cut{Kind: 9}, high(), 1}, {api.Cut{Kind: -1}, low(), -1}, {api.Cut{Kind: 9}, api.Cut{Kind: 9, V: read("1.0.0")}, 0}, {api.Cut{Kind: math.MinInt}, api.Cut{Kind: math.MaxInt}, -1},
		{api.Cut{Kind: api.CutLow, V: read("1.0.0")}, low(), 0}, {api.Cut{Kind: api.CutHigh, V: read("1.0.0")}, high(), 0}, {api.Cut{Kind: api.CutLow, V: read("9.9.9")}, ahead("1.0.0"), -1},
		{api.Cut{Kind: api.CutBehind, V: api.Version{Major: 1 << 63}}, ahead("1.0.0"), 1}, {api.Cut{Kind: api.CutAhead, V: api.Version{Major: 1 << 63}}, behind("1.0.0"), -1},
	} {
		if got := Compare(c.a, c.b); got != c.want {
			t.Errorf("Compare(%v, %v) = %d, want %d", c.a, c.b, got, c.want)
		}
		if got := Compare(c.b, c.a); got != -c.want {
			t.Errorf("Compare(%v, %v) = %d, want %d", c.b, c.a, got, -c.want)
		}
	}
}

// P5.1, R3 and R4: rows without identifiers are alike, and what lies behind a row's length doesn't count.
func TestCompareTakesRowsByTheirIdentifiers(t *testing.T) {
	more := []string{"a", "b"}
	for _, none := range [][]string{nil, {}, more[:0]} {
		v := api.Version{Pre: none, Build: none}
		for _, c := range [][2]api.Cut{{low(), {Kind: api.CutLow, V: v}}, {high(), {Kind: api.CutHigh, V: v}}, {ahead("0.0.0"), {Kind: api.CutAhead, V: v}}, {behind("0.0.0"), {Kind: api.CutBehind, V: v}}} {
			if Compare(c[0], c[1]) != 0 || Compare(c[1], c[0]) != 0 || Good(set(between(low(), c[1]))) != (c[1].Kind != api.CutLow) {
				t.Errorf("%#v isn't alike %#v", c[0], c[1])
			}
		}
		if a := (api.Cut{Kind: api.CutAhead, V: api.Version{Major: 1, Pre: more[:1], Build: none}}); Compare(a, ahead("1.0.0-a")) != 0 || Compare(a, ahead("1.0.0-a.a")) != -1 || Compare(a, behind("1.0.0")) != -1 {
			t.Errorf("%#v isn't ahead of 1.0.0-a", a)
		}
	}
}

// P5.1: what is normal, by hand.
func TestGoodOfSomeSets(t *testing.T) {
	one := between(ahead("1.0.0"), ahead("2.0.0"))
	for i, l := range [][]api.Span{
		nil, {}, set(one)[:0], all(), set(one), set(between(low(), ahead("1.0.0"))), set(between(behind("1.0.0"), high())), set(between(ahead("1.0.0"), behind("1.0.0"))),
		set(between(behind("1.0.0"), ahead("1.0.1-0"))), set(between(low(), ahead("0.0.0-0"))),
		set(between(low(), ahead("1.0.0")), between(behind("1.0.0"), high())), set(one, between(behind("2.0.0"), high())), set(between(low(), behind("0.9.0")), one, between(ahead("2.0.1"), high())),
		set(between(low(), behind("1.0.0")), between(ahead("1.0.1-0"), high())),
	} {
		if !Good(l) {
			t.Errorf("%d: %v is normal", i, l)
		}
	}
	for i, l := range [][]api.Span{
		set(between(low(), low())), set(between(high(), high())), set(between(high(), low())), set(between(ahead("1.0.0"), ahead("1.0.0"))), set(between(behind("1.0.0"), behind("1.0.0"))), set(between(behind("1.0.0"), ahead("1.0.0"))), set(between(ahead("2.0.0"), ahead("1.0.0"))),
		set(one, one), set(one, between(ahead("2.0.0"), high())), set(one, between(ahead("1.5.0"), high())), set(one, between(ahead("1.5.0"), ahead("1.6.0"))), set(one, between(low(), ahead("0.5.0"))), set(one, between(low(), ahead("1.0.0"))),
		set(between(low(), high()), between(low(), high())), set(between(low(), high()), between(high(), high())), set(between(low(), low()), between(low(), high())),
		set(between(ahead("1.0.0+b"), ahead("2.0.0"))), set(between(ahead("1.0.0"), ahead("2.0.0+b"))), set(between(low(), api.Cut{Kind: 9})), set(between(api.Cut{Kind: -1}, high())),
		set(between(api.Cut{V: read("0.0.1")}, high())), set(between(low(), api.Cut{Kind: api.CutHigh, V: read("0.0.0-0")})), set(between(low(), behind("1.0.0")), between(behind("1.0.0"), high())),
		set(between(low(), ahead("1.0.0")), between(ahead("1.0.0"), behind("1.0.0"))), set(between(low(), behind("1.0.0")), between(ahead("1.0.0"), high())),
		set(one, between(behind("2.0.0"), behind("2.0.0"))), set(one, between(behind("2.0.0"), high()), between(high(), low())), set(between(behind("1.0.0"), api.Cut{Kind: api.CutBehind, V: api.Version{Major: 1 << 63}})),
	} {
		if Good(l) {
			t.Errorf("%d: %v isn't normal", i, l)
		}
	}
}

// wantedGood is the second way of telling what is normal.
func wantedGood(l []pair) bool {
	var places []int
	for _, p := range l {
		if !p.lo.right || !p.hi.right {
			return false
		}
		places = append(places, p.lo.place, p.hi.place)
	}
	for i := range places {
		if i > 0 && places[i-1] >= places[i] {
			return false
		}
	}
	return true
}

// P5.1: all sets of two spans or fewer between some cuts, wrong ones too; and more spans of right cuts.
func TestGoodOfAllShortSets(t *testing.T) {
	l := pairs(append(some(), fewWrong()...))
	for _, a := range l {
		for _, b := range l {
			for _, s := range [][]pair{{a}, {a, b}} {
				if got, want := Good(spans(s)), wantedGood(s); got != want {
					t.Fatalf("Good(%v) = %v", spans(s), got)
				}
			}
		}
	}
	l = pairs(some()[1:6])
	for _, a := range l {
		for _, b := range l {
			for _, c := range l {
				if s := []pair{a, b, c}; Good(spans(s)) != wantedGood(s) {
					t.Fatalf("Good(%v) = %v", spans(s), Good(spans(s)))
				}
			}
		}
	}
}

// P5.1: a set that has one wrong cut, at whatever place, isn't normal.
func TestGoodLooksAtEveryCut(t *testing.T) {
	good := set(between(low(), ahead("1.0.0")), between(behind("1.0.0"), ahead("2.0.0")), between(behind("3.0.0"), high()))
	for _, w := range wrongCuts() {
		for i := range good {
			lo, hi := slices.Clone(good), slices.Clone(good)
			lo[i].Lo, hi[i].Hi = w.cut, w.cut
			if Good(lo) || Good(hi) || Points(lo) != nil || Points(hi) != nil {
				t.Errorf("a set with %.80v at span %d is normal", w.cut, i)
			}
		}
	}
}

// P5.1: which versions a set has, by hand.
func TestHasOfSomeSets(t *testing.T) {
	l := set(between(ahead("1.0.0"), ahead("2.0.0")), between(behind("3.0.0"), behind("4.0.0")), between(ahead("5.0.0"), behind("5.0.0")), between(behind("6.0.0"), ahead("6.0.1-0")))
	for s, want := range map[string]bool{
		"0.0.0-0": false, "0.9.9": false, "1.0.0-0": false, "1.0.0-z": false, "1.0.0": true, "1.0.0+b": true, "1.9.9": true, "2.0.0-0": true, "2.0.0-rc.1+b": true, "2.0.0": false, "2.0.0+b": false, "2.5.0": false,
		"3.0.0-z": false, "3.0.0": false, "3.0.0+b": false, "3.0.1-0": true, "3.5.0": true, "4.0.0-0": true, "4.0.0": true, "4.0.0+00": true, "4.0.1-0": false, "5.0.0-z": false, "5.0.0": true, "5.0.0+b": true, "5.0.1-0": false,
		"6.0.0": false, "6.0.1-0": false, "6.0.1": false, "9223372036854775807.0.0": false,
	} {
		v := read(s)
		if got := Has(l, v); got != want {
			t.Errorf("Has of %s = %v", s, got)
		}
		if !Has(all(), v) || Has(nil, v) || Has([]api.Span{}, v) || Has(l[:0], v) {
			t.Errorf("all versions don't have %s, or none do", s)
		}
	}
}

// P5.1: spans whatever they are, wrong ones too, against versions: right ones, with and without builds, and wrong ones.
func TestHasOfWhateverSpans(t *testing.T) {
	type version struct {
		v             api.Version
		ahead, behind known
	}
	var versions []version
	for i, c := range rightCuts(rising()) {
		if c.cut.Kind != api.CutAhead {
			continue
		}
		v := c.cut.V
		for _, build := range [][]string{nil, {}, {"b"}, {"0", "00"}, {""}, slices.Repeat([]string{"b"}, 17)} {
			v.Build = build
			versions = append(versions, version{v, c, rightCuts(rising())[i+1]})
		}
	}
	for _, v := range wrongVersions() {
		versions = append(versions, version{v, known{cut: api.Cut{Kind: api.CutAhead}}, known{cut: api.Cut{Kind: api.CutBehind}}})
	}
	for _, p := range pairs(knownCuts()) {
		l := spans([]pair{p})
		for _, v := range versions {
			want := wantedCompare(p.lo, v.ahead) <= 0 && wantedCompare(p.hi, v.behind) >= 0
			if got := Has(l, v.v); got != want {
				t.Fatalf("Has(%.200v, %.80v) = %v", l, v.v, got)
			}
		}
	}
}

// P5.1: one span is enough, wherever it stands, whatever the others are.
func TestHasAsksEverySpan(t *testing.T) {
	none := between(high(), low())
	yes := between(ahead("1.0.0"), behind("1.0.0"))
	for n := range 5 {
		for i := range n + 1 {
			l := slices.Insert(slices.Repeat(set(none), n), i, yes)
			if !Has(l, read("1.0.0")) || Has(l, read("1.0.1")) || Has(l[:i], read("1.0.0")) {
				t.Errorf("Has of %v", l)
			}
		}
	}
}

// checkOne looks at what is answered of one set, by the second way.
func checkOne(t *testing.T, l []pair, cuts []known) {
	t.Helper()
	s, g := spans(l), gapsOf(l)
	if got, want := Normal(s), g.set(cuts); !like(got, want) {
		t.Fatalf("Normal(%.300v) = %.300v, want %.300v", s, got, want)
	}
	if got, want := Not(s), (whole(cuts) &^ g).set(cuts); !like(got, want) {
		t.Fatalf("Not(%.300v) = %.300v, want %.300v", s, got, want)
	}
}

// checkTwo looks at what is answered of two sets, by the second way.
func checkTwo(t *testing.T, a, b []pair, cuts []known) {
	t.Helper()
	x, y, g, h := spans(a), spans(b), gapsOf(a), gapsOf(b)
	if got, want := Union(x, y), (g | h).set(cuts); !like(got, want) {
		t.Fatalf("Union(%.300v, %.300v) = %.300v, want %.300v", x, y, got, want)
	}
	if got, want := Meet(x, y), (g & h).set(cuts); !like(got, want) {
		t.Fatalf("Meet(%.300v, %.300v) = %.300v, want %.300v", x, y, got, want)
	}
}

// P5.2: Normal and Not, by hand: spans that touch, that lie one over the other, one within another, in any order, twice; that have nothing; that aren't right.
func TestNormalOfSomeSets(t *testing.T) {
	one, two := between(ahead("1.0.0"), ahead("2.0.0")), between(ahead("2.0.0"), behind("3.0.0"))
	for i, c := range []struct{ l, normal, not []api.Span }{
		{nil, nil, all()},
		{[]api.Span{}, nil, all()},
		{all(), all(), nil},
		{set(one), set(one), set(between(low(), ahead("1.0.0")), between(ahead("2.0.0"), high()))},
		{set(one, two), set(between(ahead("1.0.0"), behind("3.0.0"))), set(between(low(), ahead("1.0.0")), between(behind("3.0.0"), high()))},
		{set(two, one), set(between(ahead("1.0.0"), behind("3.0.0"))), set(between(low(), ahead("1.0.0")), between(behind("3.0.0"), high()))},
		{set(one, one, one), set(one), set(between(low(), ahead("1.0.0")), between(ahead("2.0.0"), high()))},
		{set(one, between(ahead("1.5.0"), high())), set(between(ahead("1.0.0"), high())), set(between(low(), ahead("1.0.0")))},
		{set(one, between(ahead("1.5.0"), behind("1.6.0"))), set(one), set(between(low(), ahead("1.0.0")), between(ahead("2.0.0"), high()))},
		{set(one, between(ahead("1.0.0"), behind("1.6.0"))), set(one), set(between(low(), ahead("1.0.0")), between(ahead("2.0.0"), high()))},
		{set(one, between(behind("1.5.0"), ahead("2.0.0"))), set(one), set(between(low(), ahead("1.0.0")), between(ahead("2.0.0"), high()))},
		{set(one, between(behind("2.0.0"), high())), set(one, between(behind("2.0.0"), high())), set(between(low(), ahead("1.0.0")), between(ahead("2.0.0"), behind("2.0.0")))},
		{set(between(behind("2.0.0"), high()), one), set(one, between(behind("2.0.0"), high())), set(between(low(), ahead("1.0.0")), between(ahead("2.0.0"), behind("2.0.0")))},
		{set(between(low(), behind("1.0.0")), between(ahead("1.0.0"), high())), all(), nil},
		{set(between(low(), ahead("1.0.0")), between(ahead("1.0.0"), high())), all(), nil},
		{set(between(low(), behind("1.0.0")), between(ahead("1.0.1-0"), high())), set(between(low(), behind("1.0.0")), between(ahead("1.0.1-0"), high())), set(between(behind("1.0.0"), ahead("1.0.1-0")))},
		{set(between(ahead("1.0.0"), behind("1.0.0"))), set(between(ahead("1.0.0"), behind("1.0.0"))), set(between(low(), ahead("1.0.0")), between(behind("1.0.0"), high()))},
		{set(between(low(), ahead("1.0.0")), between(behind("1.0.0"), high())), set(between(low(), ahead("1.0.0")), between(behind("1.0.0"), high())), set(between(ahead("1.0.0"), behind("1.0.0")))},
		{set(between(high(), low()), between(ahead("2.0.0"), ahead("1.0.0")), between(ahead("1.0.0"), ahead("1.0.0")), between(behind("1.0.0"), ahead("1.0.0")), between(low(), low()), between(high(), high())), nil, all()},
		{set(between(high(), low()), one, between(ahead("2.0.0"), ahead("1.0.0"))), set(one), set(between(low(), ahead("1.0.0")), between(ahead("2.0.0"), high()))},
		{set(between(low(), api.Cut{Kind: 9}), between(api.Cut{Kind: -1}, high()), between(low(), ahead("1.0.0+b")), between(api.Cut{V: read("0.0.1")}, high()), between(api.Cut{Kind: api.CutAhead, V: api.Version{Pre: []string{"01"}}}, high())), nil, all()},
		{set(between(low(), ahead("0.0.0-0"))), set(between(low(), ahead("0.0.0-0"))), set(between(ahead("0.0.0-0"), high()))},
	} {
		if got := Normal(c.l); !like(got, c.normal) {
			t.Errorf("%d: Normal(%v) = %v, want %v", i, c.l, got, c.normal)
		}
		if got := Not(c.l); !like(got, c.not) {
			t.Errorf("%d: Not(%v) = %v, want %v", i, c.l, got, c.not)
		}
	}
}

// P5.2: Union and Meet, by hand.
func TestUnionAndMeetOfSomeSets(t *testing.T) {
	one, later := between(ahead("1.0.0"), ahead("2.0.0")), between(behind("1.5.0"), high())
	but := set(between(low(), ahead("1.2.0")), between(behind("1.2.0"), high()))
	twice := set(one, one, between(ahead("1.0.0"), high()))
	for i, c := range []struct{ a, b, union, meet []api.Span }{
		{nil, nil, nil, nil},
		{nil, set(one), set(one), nil},
		{all(), set(one), all(), set(one)},
		{all(), nil, all(), nil},
		{all(), all(), all(), all()},
		{set(one), set(one), set(one), set(one)},
		{set(one), set(later), set(between(ahead("1.0.0"), high())), set(between(behind("1.5.0"), ahead("2.0.0")))},
		{set(one), set(between(ahead("2.0.0"), high())), set(between(ahead("1.0.0"), high())), nil},
		{set(one), set(between(behind("2.0.0"), high())), set(one, between(behind("2.0.0"), high())), nil},
		{set(one), but, all(), set(between(ahead("1.0.0"), ahead("1.2.0")), between(behind("1.2.0"), ahead("2.0.0")))},
		{twice, nil, set(between(ahead("1.0.0"), high())), nil},
		{twice, set(between(low(), ahead("1.1.0"))), all(), set(between(ahead("1.0.0"), ahead("1.1.0")))},
		{twice, twice, set(between(ahead("1.0.0"), high())), set(between(ahead("1.0.0"), high()))},
		{set(between(high(), low())), all(), all(), nil},
		{set(between(low(), api.Cut{Kind: 9}), one), all(), all(), set(one)},
		{set(between(low(), behind("1.0.0"))), set(between(ahead("1.0.0"), high())), all(), set(between(ahead("1.0.0"), behind("1.0.0")))},
		{set(between(low(), ahead("1.0.1-0"))), set(between(behind("1.0.0"), high())), all(), set(between(behind("1.0.0"), ahead("1.0.1-0")))},
	} {
		for _, p := range [][2][]api.Span{{c.a, c.b}, {c.b, c.a}} {
			if got := Union(p[0], p[1]); !like(got, c.union) {
				t.Errorf("%d: Union(%v, %v) = %v, want %v", i, p[0], p[1], got, c.union)
			}
			if got := Meet(p[0], p[1]); !like(got, c.meet) {
				t.Errorf("%d: Meet(%v, %v) = %v, want %v", i, p[0], p[1], got, c.meet)
			}
		}
	}
}

// P5.2: all lists of two spans or fewer between some cuts, whichever way round, wrong ones too; and lists of three.
func TestNormalAndNotOfAllShortLists(t *testing.T) {
	cuts := some()
	l := pairs(append(some(), fewWrong()...))
	for _, a := range l {
		checkOne(t, []pair{a}, cuts)
		for _, b := range l {
			checkOne(t, []pair{a, b}, cuts)
		}
	}
	l = pairs(cuts[:7])
	for i, a := range l {
		for k, b := range l {
			checkOne(t, []pair{a, b, l[(i*5+k*11)%len(l)]}, cuts)
			checkOne(t, []pair{b, l[(i*3+k*7)%len(l)], a, l[(i+k)%len(l)]}, cuts)
		}
	}
}

// P5.2: all pairs of a span and a span, and of lists of two, between some cuts.
func TestUnionAndMeetOfShortLists(t *testing.T) {
	cuts := some()
	l := pairs(append(some(), fewWrong()...))
	for i, a := range l {
		checkTwo(t, nil, []pair{a}, cuts)
		checkTwo(t, []pair{a}, nil, cuts)
		for k, b := range l {
			checkTwo(t, []pair{a}, []pair{b}, cuts)
			checkTwo(t, []pair{a, l[(i*5+k)%len(l)]}, []pair{l[(i+k*7)%len(l)], b}, cuts)
			checkTwo(t, []pair{a, b}, []pair{b, l[(i*3+k*5)%len(l)], a}, cuts)
		}
	}
}

// P5.2 and P5.4: all normal sets between some cuts: they are good, and stay; Not of Not is the set; Union and Meet of each two.
func TestAllNormalSets(t *testing.T) {
	cuts := some()
	for g := range whole(cuts) + 1 {
		s := g.set(cuts)
		if !Good(s) || !like(Normal(s), s) || !like(Not(Not(s)), s) || !Same(Not(Not(s)), s) || !Good(Not(s)) {
			t.Fatalf("%v isn't good, or doesn't stay", s)
		}
		checkOne(t, g.runs(cuts), cuts)
		for h := range whole(cuts) + 1 {
			checkTwo(t, g.runs(cuts), h.runs(cuts), cuts)
			if got := Same(s, h.set(cuts)); got != (g == h) {
				t.Fatalf("Same(%v, %v) = %v", s, h.set(cuts), got)
			}
		}
	}
}

// P5.4: of lists that aren't normal too: Normal's answer stays, Not of Not is it, and versions are in Union, Meet and Not as they are in the lists.
func TestSetsHaveWhatTheyAreToHave(t *testing.T) {
	var versions []api.Version
	for _, s := range []string{"0.0.0-0", "0.9.0", "1.0.0-0", "1.0.0-rc.0", "1.0.0-rc.1", "1.0.0-rc.1+b", "1.0.0-rc.1.0", "1.0.0-rc.2", "1.0.0", "1.0.0+b", "1.0.1-0", "1.0.1-0.0", "1.0.1", "9223372036854775807.0.0"} {
		versions = append(versions, read(s))
	}
	l := pairs(some())
	for i, a := range l {
		for k, b := range l {
			x, y := spans([]pair{a, l[(i*7+k*3)%len(l)]}), spans([]pair{b, l[(i*5+k*11)%len(l)]})
			n, u, m, not := Normal(x), Union(x, y), Meet(x, y), Not(x)
			if !Good(n) || !Good(u) || !Good(m) || !Good(not) || !like(Normal(n), n) || !like(Not(not), n) {
				t.Fatalf("an answer of %v and %v isn't normal, or doesn't stay", x, y)
			}
			for _, v := range versions {
				inX, inY := Has(x, v), Has(y, v)
				if Has(n, v) != inX || Has(not, v) == inX || Has(u, v) != (inX || inY) || Has(m, v) != (inX && inY) {
					t.Fatalf("%s is in %v: %v, in %v: %v", semver.Text(v), x, inX, y, inY)
				}
			}
		}
	}
}

// P5.2: in whatever order spans come, and however often, the normal set is one.
func TestNormalHangsOnNoOrder(t *testing.T) {
	cuts := rightCuts(rising())
	n := len(cuts)
	var l []pair
	for i := range n {
		l = append(l, pair{cuts[i*5%n], cuts[(i*5%n+i%4)%n]})
	}
	want := gapsOf(l).set(cuts)
	if len(want) < 3 {
		t.Fatalf("too few spans are left: %v", want)
	}
	// Steps that have no divisor with the number of cuts, so that every span comes, each three times.
	for _, step := range []int{1, 5, 11, 13, 17, 25, 41} {
		var mixed []pair
		for i := range n * 3 {
			mixed = append(mixed, l[(i*step+i/n)%n])
		}
		if gapsOf(mixed) != gapsOf(l) {
			t.Fatalf("in steps of %d not all of %d spans come", step, n)
		}
		if got := Normal(spans(mixed)); !like(got, want) {
			t.Fatalf("Normal in steps of %d = %v, want %v", step, got, want)
		}
	}
	back := slices.Clone(l)
	slices.Reverse(back)
	if !like(Normal(spans(back)), want) || !like(Normal(spans(l)), want) {
		t.Error("Normal of what comes the other way round is another set")
	}
}

// P5.2 and P5.4: lists of some tens of spans, drawn by a fixed rule, of which many begin or end at the same cuts: how a sort leaves cuts that stand alike is to show nowhere.
func TestSetsOfDrawnLists(t *testing.T) {
	state := uint64(1)
	draw := func(n int) int {
		state = state*6364136223846793005 + 1442695040888963407
		return int(state>>33) % n
	}
	cuts, wrong := rightCuts(rising()), wrongCuts()
	list := func(n, few int) []pair {
		var l []pair
		for range n {
			p := pair{cuts[draw(few)], cuts[draw(few)]}
			switch draw(8) {
			case 0:
				p.lo = cuts[0]
			case 1, 2, 3:
				p.hi = cuts[len(cuts)-1]
			case 4:
				p.hi = wrong[draw(len(wrong))]
			}
			l = append(l, p)
		}
		return l
	}
	for range 3000 {
		few := 2 + draw(len(cuts)-1)
		a, b := list(1+draw(40), few), list(1+draw(40), few)
		checkOne(t, a, cuts)
		checkTwo(t, a, b, cuts)
		if n := Normal(spans(a)); !Good(n) || !like(Not(Not(spans(a))), n) || !like(Normal(n), n) {
			t.Fatalf("Normal(%.300v) = %.300v isn't normal, or doesn't stay", spans(a), n)
		}
	}
}

// P1 and P5.2: long lists.
func TestLongLists(t *testing.T) {
	const n = 20000
	cut := func(kind, i int) api.Cut { return api.Cut{Kind: kind, V: api.Version{Minor: uint64(i)}} }
	var apart, touching, nested []api.Span
	for i := range n {
		k := i * 7919 % n
		apart = append(apart, between(cut(api.CutAhead, 2*k), cut(api.CutAhead, 2*k+1)))
		touching = append(touching, between(cut(api.CutAhead, k), cut(api.CutAhead, k+1)))
		nested = append(nested, between(cut(api.CutAhead, k), cut(api.CutBehind, 3*n-k)))
	}
	if got := Normal(apart); len(got) != n || !Good(got) || len(Not(apart)) != n+1 || len(Meet(apart, Not(apart))) != 0 || !like(Union(apart, Not(apart)), all()) {
		t.Error("spans that are apart")
	}
	if got := Normal(touching); !like(got, set(between(cut(api.CutAhead, 0), cut(api.CutAhead, n)))) {
		t.Errorf("spans that touch: %d", len(got))
	}
	if got := Normal(nested); !like(got, set(between(cut(api.CutAhead, 0), cut(api.CutBehind, 3*n)))) {
		t.Errorf("spans one within another: %d", len(got))
	}
}

// P5.2: many spans that begin, or end, at one cut, however many: what a set and all versions have in common at their ends counts together.
func TestManySpansAtOneCut(t *testing.T) {
	cut := func(i int) api.Cut { return api.Cut{Kind: api.CutAhead, V: api.Version{Minor: uint64(i)}} }
	for n := 1; n <= 150; n++ {
		var down, up, both []api.Span
		for i := range n {
			down, up = append(down, between(low(), cut(i*7%n+1))), append(up, between(cut(i*11%n), high()))
			both = append(both, between(low(), high()))
		}
		least := n
		for _, s := range up {
			least = min(least, int(s.Lo.V.Minor))
		}
		most := 0
		for _, s := range down {
			most = max(most, int(s.Hi.V.Minor))
		}
		if got := Not(down); !like(got, set(between(cut(most), high()))) || !like(Normal(down), set(between(low(), cut(most)))) {
			t.Fatalf("Not of %d spans from the lowest cut on = %v", n, got)
		}
		if got := Not(up); !like(got, set(between(low(), cut(least)))) || !like(Normal(up), set(between(cut(least), high()))) {
			t.Fatalf("Not of %d spans up to the highest cut = %v", n, got)
		}
		if got := Not(both); len(got) != 0 || !like(Normal(both), all()) || !like(Union(both, up), all()) || !like(Meet(both, up), Normal(up)) {
			t.Fatalf("Not of all versions, %d times = %v", n, got)
		}
	}
}

// P5.3: points, by hand: gaps of just the versions that stand alike, and other ones.
func TestPointsOfSomeSets(t *testing.T) {
	for i, c := range []struct {
		l    []api.Span
		want []string
	}{
		{nil, nil}, {all(), nil}, {set(between(low(), ahead("1.0.0"))), nil}, {set(between(behind("1.0.0"), high())), nil},
		{set(between(low(), ahead("1.0.0")), between(behind("1.0.0"), high())), []string{"1.0.0"}},
		{set(between(ahead("0.5.0"), ahead("1.0.0")), between(behind("1.0.0"), ahead("2.0.0-rc.1")), between(behind("2.0.0-rc.1"), behind("3.0.0"))), []string{"1.0.0", "2.0.0-rc.1"}},
		{set(between(low(), ahead("1.0.0")), between(behind("1.0.0"), ahead("2.0.0")), between(ahead("3.0.0"), ahead("4.0.0")), between(behind("4.0.0"), high())), []string{"1.0.0", "4.0.0"}},
		{set(between(low(), behind("1.0.0")), between(ahead("1.0.1-0"), high())), nil},
		{set(between(low(), behind("1.0.0")), between(behind("1.0.1-0"), high())), nil},
		{set(between(low(), ahead("1.0.0")), between(ahead("1.0.1-0"), high())), nil},
		{set(between(low(), ahead("1.0.0")), between(behind("1.0.1-0"), high())), nil},
		{set(between(low(), ahead("1.0.0")), between(behind("1.0.0-0"), high())), nil},
		{set(between(low(), ahead("0.0.0-0")), between(behind("0.0.0-0"), high())), []string{"0.0.0-0"}},
		{set(between(behind("1.0.0"), high()), between(low(), ahead("1.0.0"))), nil},
		{set(between(low(), ahead("1.0.0")), between(behind("1.0.0"), high()), between(high(), high())), nil},
		{set(between(low(), ahead("1.0.0")), between(behind("1.0.0"), high()), between(ahead("2.0.0"), high())), nil},
		{set(between(high(), low()), between(low(), ahead("1.0.0")), between(behind("1.0.0"), high())), nil},
		{set(between(low(), ahead("1.0.0+b")), between(behind("1.0.0+b"), high())), nil},
		{set(between(low(), ahead("1.0.0")), between(behind("1.0.0+b"), high())), nil},
		{set(between(low(), ahead("1.0.0+b")), between(behind("1.0.0"), high())), nil},
		{set(between(low(), ahead("1.0.0")), between(behind("1.0.0"), api.Cut{Kind: 9})), nil},
	} {
		var got []string
		for _, v := range Points(c.l) {
			got = append(got, semver.Text(v))
		}
		if !slices.Equal(got, c.want) {
			t.Errorf("%d: Points(%v) = %q, want %q", i, c.l, got, c.want)
		}
	}
}

// wantedPoints is the second way: a gap that is left out between two that aren't, from an ahead to the behind that comes next.
func wantedPoints(g gaps, cuts []known) []api.Version {
	var l []api.Version
	for i := 1; i+2 < len(cuts); i++ {
		if cuts[i].cut.Kind == api.CutAhead && g>>(i-1)&7 == 5 {
			l = append(l, cuts[i].cut.V)
		}
	}
	return l
}

// P5.3: the points of all normal sets between some cuts.
func TestPointsOfAllNormalSets(t *testing.T) {
	cuts := rightCuts([]string{"0.0.0-0", "1.0.0-rc.1", "1.0.0", "1.0.1-0", "2.0.0"})
	for g := range whole(cuts) + 1 {
		s := g.set(cuts)
		if got, want := Points(s), wantedPoints(g, cuts); !slices.EqualFunc(got, want, likeVersion) {
			t.Fatalf("Points(%v) = %v, want %v", s, got, want)
		}
	}
}

// P5.3: Points of sets that aren't normal are none.
func TestPointsOfOtherSetsAreNone(t *testing.T) {
	l := pairs(append(some(), fewWrong()...))
	for _, a := range l {
		for _, b := range l {
			if s := []pair{a, b}; !wantedGood(s) && len(Points(spans(s))) != 0 {
				t.Fatalf("Points(%v) = %v", spans(s), Points(spans(s)))
			}
		}
	}
}

// P5.3: Same, by hand: versions that stand alike, sets of other lengths, spans in another order, wrong cuts by Kind alone.
func TestSameOfSomeSets(t *testing.T) {
	one, two := between(ahead("1.0.0"), ahead("2.0.0")), between(behind("3.0.0"), high())
	empty := api.Version{Major: 1, Pre: []string{}, Build: []string{}}
	for i, c := range []struct {
		a, b []api.Span
		want bool
	}{
		{nil, nil, true}, {nil, []api.Span{}, true}, {set(one)[:0], nil, true}, {nil, set(one), false}, {set(one), set(one), true}, {set(one), set(one, one), false}, {set(one, two), set(one), false},
		{set(one, two), set(one, two), true}, {set(one, two), set(two, one), false}, {set(one), set(two), false}, {all(), all(), true}, {all(), nil, false},
		{set(one), set(between(ahead("1.0.0"), behind("2.0.0"))), false}, {set(one), set(between(behind("1.0.0"), ahead("2.0.0"))), false}, {set(one), set(between(ahead("1.0.1"), ahead("2.0.0"))), false}, {set(one), set(between(ahead("1.0.0"), ahead("2.0.1"))), false},
		{set(between(ahead("1.0.0"), high())), set(between(api.Cut{Kind: api.CutAhead, V: empty}, high())), true}, {set(between(low(), behind("1.0.0"))), set(between(low(), api.Cut{Kind: api.CutBehind, V: empty})), true},
		{set(between(high(), low())), set(between(high(), low())), true}, {set(between(high(), low())), nil, false}, {set(one, two), set(one, between(behind("3.0.0"), ahead("9.0.0"))), false},
		{set(between(ahead("1.0.0+b"), high())), set(between(ahead("7.0.0"), high())), true}, {set(between(ahead("1.0.0+b"), high())), set(between(behind("1.0.0+b"), high())), false},
		{set(between(low(), api.Cut{Kind: 9})), set(between(low(), api.Cut{Kind: 9, V: read("1.0.0")})), true}, {set(between(low(), api.Cut{Kind: 9})), set(between(low(), api.Cut{Kind: 8})), false},
		{set(between(low(), api.Cut{Kind: api.CutHigh, V: read("1.0.0")})), all(), true}, {Not(set(one)), Not(Normal(set(one, one))), true},
	} {
		if Same(c.a, c.b) != c.want || Same(c.b, c.a) != c.want {
			t.Errorf("%d: Same(%v, %v) = %v", i, c.a, c.b, !c.want)
		}
	}
}

// P5.3: Same tells of spans of whatever cuts what Compare does.
func TestSameOfWhateverSpans(t *testing.T) {
	for _, a := range knownCuts() {
		for _, b := range knownCuts() {
			want := wantedCompare(a, b) == 0
			lo, hi := set(between(low(), high()), between(a.cut, high())), set(between(low(), high()), between(low(), a.cut))
			if Same(lo, set(between(low(), high()), between(b.cut, high()))) != want || Same(hi, set(between(low(), high()), between(low(), b.cut))) != want {
				t.Fatalf("Same of %.80v and %.80v isn't %v", a.cut, b.cut, want)
			}
		}
	}
}

// answers are the sets that are answered of two.
func answers(a, b []api.Span) [][]api.Span {
	return [][]api.Span{Normal(a), Normal(b), Union(a, b), Union(b, a), Meet(a, b), Meet(b, a), Not(a), Not(b)}
}

// roomy is two sets whose lists have more memory behind their lengths, and which share it, and that memory.
func roomy() (a, b, room []api.Span, texts []string) {
	texts = []string{"rc", "1", "z", "z"}
	v := func(n int) api.Version { return api.Version{Major: 1, Pre: texts[:n:4]} }
	room = set(
		between(api.Cut{Kind: api.CutAhead, V: v(1)}, api.Cut{Kind: api.CutBehind, V: v(2)}),
		between(behind("3.0.0"), ahead("4.0.0")),
		between(ahead("2.0.0"), ahead("3.0.0")),
		between(api.Cut{Kind: api.CutAhead, V: v(2)}, api.Cut{Kind: api.CutBehind, V: v(2)}),
		between(low(), high()),
		between(high(), low()),
	)
	return room[:3], room[2:4], room, texts
}

// R4: what is handed in is left as it was, what lies behind the lists' lengths too, and that isn't read.
func TestListsAreLeftAsTheyWere(t *testing.T) {
	a, b, room, texts := roomy()
	was, textsWere := deepCopy(room), slices.Clone(texts)
	x, y := deepCopy(a), deepCopy(b)
	got, want := answers(a, b), answers(x, y)
	for i := range got {
		if !like(got[i], want[i]) {
			t.Errorf("answer %d hangs on what lies behind the length: %v, want %v", i, got[i], want[i])
		}
	}
	Good(a)
	Has(a, api.Version{Major: 1, Pre: texts[:1], Build: texts[2:3]})
	Points(b)
	Same(a, b)
	if !like(room, was) || !slices.Equal(texts, textsWere) {
		t.Errorf("what was handed in is changed: %v, %q", room, texts)
	}
}

// R4: what is answered is new: written over and grown it changes nothing else, nor another list of the answer; of normal sets too.
func TestAnswersAreNewMemory(t *testing.T) {
	a, b, room, texts := roomy()
	checkNewMemory(t, a, b, room, texts)
	checkNewMemory(t, a, nil, room, texts)
	if !Good(room[:2]) || !Good(room[3:4]) {
		t.Fatal("the sets are to be normal ones")
	}
	checkNewMemory(t, room[:2], room[3:4], room, texts)
	checkNewMemory(t, room[:2], room[4:5], room, texts)
	checkNewMemory(t, room[:2], nil, room, texts)
}

// checkNewMemory writes into all that is answered of two sets, and looks at them, at what they lie in, and at the rest of the answer.
func checkNewMemory(t *testing.T, a, b, room []api.Span, texts []string) {
	t.Helper()
	was, textsWere := deepCopy(room), slices.Clone(texts)
	for i, got := range answers(a, b) {
		fresh := deepCopy(got)
		for k := range got {
			for _, c := range []*api.Cut{&got[k].Lo, &got[k].Hi} {
				for n := range c.V.Pre {
					c.V.Pre[n] = "written over"
				}
				c.V.Pre, c.V.Build = append(c.V.Pre, "grown", "grown"), append(c.V.Build, "grown")
				if c == &got[k].Lo && !likeCut(got[k].Hi, fresh[k].Hi) {
					t.Fatalf("answer %d: the cuts of a span share memory: %v", i, got)
				}
			}
			if !like(got[k+1:], fresh[k+1:]) {
				t.Fatalf("answer %d: spans share memory: %v", i, got)
			}
		}
		for k := range got {
			got[k] = between(high(), low())
		}
		_ = append(got, between(high(), low()))
		if !like(room, was) || !slices.Equal(texts, textsWere) {
			t.Fatalf("answer %d shares memory with what was handed in: %v, %q", i, room, texts)
		}
		if again := answers(a, b)[i]; !like(again, fresh) {
			t.Fatalf("answer %d is another one later: %v, want %v", i, again, fresh)
		}
	}
}

// R4: so are points.
func TestPointsAreNewMemory(t *testing.T) {
	texts := []string{"rc", "1", "z"}
	v := api.Version{Major: 1, Pre: texts[:2], Build: texts[:0]}
	l := set(between(low(), api.Cut{Kind: api.CutAhead, V: v}), between(api.Cut{Kind: api.CutBehind, V: v}, ahead("2.0.0-a")), between(behind("2.0.0-a"), high()))
	was := deepCopy(l)
	got := Points(l)
	if len(got) != 2 || semver.Text(got[0]) != "1.0.0-rc.1" || semver.Text(got[1]) != "2.0.0-a" {
		t.Fatalf("Points = %v", got)
	}
	got[0].Pre[0] = "written over"
	got[0].Pre, got[0].Build = append(got[0].Pre, "grown"), append(got[0].Build, "grown")
	if !like(l, was) || texts[0] != "rc" || texts[2] != "z" || got[1].Pre[0] != "a" {
		t.Errorf("a point shares memory with the set: %v, %q", l, texts)
	}
	if again := Points(l); len(again) != 2 || semver.Text(again[0]) != "1.0.0-rc.1" {
		t.Errorf("Points later = %v", again)
	}
}

// R3: an answer without spans or versions has no elements, and a cut of no version has the zero version.
func TestAnswersOfNothing(t *testing.T) {
	if len(Normal(nil)) != 0 || len(Union(nil, nil)) != 0 || len(Meet(all(), nil)) != 0 || len(Not(all())) != 0 || len(Points(nil)) != 0 {
		t.Error("an answer of nothing has something")
	}
	if got := Not(nil); !like(got, all()) || !Good(got) {
		t.Errorf("Not of nothing = %v", got)
	}
}

// The chapter's example: all but 1.0.0 are two spans, and one point.
func TestAllButOne(t *testing.T) {
	l := Not(set(between(ahead("1.0.0"), behind("1.0.0"))))
	if p := Points(l); len(l) != 2 || len(p) != 1 || semver.Text(p[0]) != "1.0.0" || Has(l, read("1.0.0+b")) || !Has(l, read("1.0.1-0")) {
		t.Errorf("all but 1.0.0: %v", l)
	}
}

// lists is two lists of spans between cuts that bytes tell.
func lists(b []byte, cuts []known) (x, y []pair) {
	for ; len(b) >= 3; b = b[3:] {
		p := pair{cuts[int(b[0])%len(cuts)], cuts[int(b[1])%len(cuts)]}
		if b[2]%2 == 0 {
			x = append(x, p)
		} else {
			y = append(y, p)
		}
	}
	return x, y
}

// P1, P5.1 to P5.4: whatever spans there are, of right cuts and wrong ones.
func FuzzSets(f *testing.F) {
	f.Add([]byte{1, 4, 0, 3, 9, 1})
	f.Add([]byte{0, 41, 0, 2, 3, 1, 3, 2, 1, 60, 5, 0})
	f.Add([]byte{1, 2, 0, 2, 3, 0, 3, 4, 0, 9, 1, 1, 50, 70, 1})
	f.Fuzz(func(t *testing.T, b []byte) {
		cuts := rightCuts(rising())
		x, y := lists(b, knownCuts())
		checkOne(t, x, cuts)
		checkTwo(t, x, y, cuts)
		if Good(spans(x)) != wantedGood(x) || !like(Not(Not(spans(y))), Normal(spans(y))) {
			t.Fatalf("Good of %v, or Not of Not of %v", spans(x), spans(y))
		}
		n := Normal(spans(x))
		if got, want := Points(n), wantedPoints(gapsOf(x), cuts); !slices.EqualFunc(got, want, likeVersion) {
			t.Fatalf("Points(%v) = %v, want %v", n, got, want)
		}
	})
}

// P1 and P5.1: whatever cuts and versions there are.
func FuzzCuts(f *testing.F) {
	f.Add(1, uint64(1), "", "", 2, uint64(1), "", "")
	f.Add(1, uint64(1), "rc.1", "", 2, uint64(1), "rc.1", "b")
	f.Add(0, uint64(0), "", "", 9, uint64(1<<63), "01", "")
	f.Fuzz(func(t *testing.T, aKind int, aMajor uint64, aPre, aBuild string, bKind int, bMajor uint64, bPre, bBuild string) {
		row := func(s string) []string {
			if s == "" {
				return nil
			}
			return strings.Split(s, ".")
		}
		a := api.Cut{Kind: aKind, V: api.Version{Major: aMajor, Pre: row(aPre), Build: row(aBuild)}}
		b := api.Cut{Kind: bKind, V: api.Version{Major: bMajor, Pre: row(bPre), Build: row(bBuild)}}
		if got := Compare(a, b); got != -Compare(b, a) || Compare(a, a) != 0 || (got == 0) != Same(set(between(a, b)), set(between(b, a))) {
			t.Fatalf("Compare(%v, %v) = %d", a, b, got)
		}
		l := set(between(a, b), between(b, a))
		n := Normal(l)
		if !Good(n) || !like(Normal(n), n) || !like(Not(Not(l)), n) || !like(Union(l, n), n) || !like(Meet(l, n), n) || len(Meet(n, Not(n))) != 0 || !like(Union(n, Not(n)), all()) {
			t.Fatalf("sets of %v", l)
		}
		for _, v := range []api.Version{a.V, b.V} {
			if semver.Good(v) && Has(n, v) == Has(Not(n), v) {
				t.Fatalf("%v is in %v and in what isn't in it, or in none of both", v, n)
			}
		}
	})
}
