package norm

import (
	"math"
	"runtime/debug"
	"slices"
	"strings"
	"testing"

	"ferrule/api"
	"ferrule/prec"
	"ferrule/rangeexpr"
	"ferrule/semver"
	"ferrule/span"
)

// most is the greatest number that is held.
const most = "9223372036854775807"

func version(s string) api.Version {
	v, _, e := semver.Read(s)
	if e != api.OK {
		panic(s + " isn't a version")
	}
	return v
}

func expr(s string) api.Range {
	r, _, e := rangeexpr.Read(s)
	if e != api.OK {
		panic(s + " isn't an expression")
	}
	return r
}

func of(kind int, s string) api.Range { return api.Range{Kind: kind, V: version(s)} }
func is(s string) api.Range           { return of(api.RangeEq, s) }
func all() api.Range                  { return api.Range{} }
func and(l ...api.Range) api.Range    { return api.Range{Kind: api.RangeAnd, L: l} }
func or(l ...api.Range) api.Range     { return api.Range{Kind: api.RangeOr, L: l} }
func not(l ...api.Range) api.Range    { return api.Range{Kind: api.RangeNot, L: l} }

func low() api.Cut            { return api.Cut{Kind: api.CutLow} }
func high() api.Cut           { return api.Cut{Kind: api.CutHigh} }
func ahead(s string) api.Cut  { return api.Cut{Kind: api.CutAhead, V: version(s)} }
func behind(s string) api.Cut { return api.Cut{Kind: api.CutBehind, V: version(s)} }

func from(lo, hi api.Cut) api.Span   { return api.Span{Lo: lo, Hi: hi} }
func spans(l ...api.Span) []api.Span { return l }
func whole() []api.Span              { return spans(from(low(), high())) }
func only(s string) api.Span         { return from(ahead(s), behind(s)) }
func likeVersion(a, b api.Version) bool {
	return a.Major == b.Major && a.Minor == b.Minor && a.Patch == b.Patch && slices.Equal(a.Pre, b.Pre) && slices.Equal(a.Build, b.Build)
}

// like compares ranges field by field, so that nothing that is tested is taken for granted.
func like(a, b api.Range) bool {
	return a.Kind == b.Kind && likeVersion(a.V, b.V) && slices.EqualFunc(a.L, b.L, like)
}

func likeCut(a, b api.Cut) bool { return a.Kind == b.Kind && likeVersion(a.V, b.V) }

// likeSet compares sets so.
func likeSet(a, b []api.Span) bool {
	return slices.EqualFunc(a, b, func(x, y api.Span) bool { return likeCut(x.Lo, y.Lo) && likeCut(x.Hi, y.Hi) })
}

func copiedVersion(v api.Version) api.Version {
	v.Pre, v.Build = append([]string(nil), v.Pre...), append([]string(nil), v.Build...)
	return v
}

// copiedRange is a range in memory of its own.
func copiedRange(r api.Range) api.Range {
	r.V = copiedVersion(r.V)
	var l []api.Range
	for _, one := range r.L {
		l = append(l, copiedRange(one))
	}
	r.L = l
	return r
}

// copiedSet is a list in memory of its own.
func copiedSet(l []api.Span) []api.Span {
	var c []api.Span
	for _, s := range l {
		s.Lo.V, s.Hi.V = copiedVersion(s.Lo.V), copiedVersion(s.Hi.V)
		c = append(c, s)
	}
	return c
}

// nested is a range within n others.
func nested(r api.Range, n int, outer func(api.Range) api.Range) api.Range {
	for range n {
		r = outer(r)
	}
	return r
}

// The second way of telling sets: by gaps between the cuts of versions that are known, and stand rising.

// rising is texts of versions without builds, each ahead of the next one by precedence.
func rising() []string {
	return []string{
		"0.0.0-0", "0.0.0", "0.0.1-0", "0.0.3", "0.0.4-0", "0.0." + most, "0.1.0-0", "0.2.3-a", "0.3.0-0", "0." + most + ".0", "1.0.0-0", "1.0.0-rc.2", "1.0.0-rc.10", "1.0.0", "1.0.1-0",
		"1.1.0-0", "1.2.3", "1.3.0-0", "1." + most + ".0", "2.0.0-0", "2.0.0", "2.1.0-0", "3.0.0-0", most + ".0.0", most + ".1.0-0", most + "." + most + "." + most,
	}
}

// few is few enough of them that all their sets can be gone through; none stands between 1.0.0 and 1.0.1-0.
func few() []string { return []string{"0.0.0-0", "1.0.0-rc.1", "1.0.0", "1.0.1-0", "2.0.0"} }

// ends is of some of the rising ones caret's and tilde's end, by hand; without a byte: there is none.
func ends() map[string][2]string {
	return map[string][2]string{
		"0.0.0-0": {"0.0.1-0", "0.1.0-0"}, "0.0.0": {"0.0.1-0", "0.1.0-0"}, "0.0.3": {"0.0.4-0", "0.1.0-0"}, "0.0." + most: {"", "0.1.0-0"}, "0.2.3-a": {"0.3.0-0", "0.3.0-0"}, "0." + most + ".0": {"", ""},
		"1.0.0-0": {"2.0.0-0", "1.1.0-0"}, "1.0.0-rc.2": {"2.0.0-0", "1.1.0-0"}, "1.0.0-rc.10": {"2.0.0-0", "1.1.0-0"}, "1.0.0": {"2.0.0-0", "1.1.0-0"}, "1.0.1-0": {"2.0.0-0", "1.1.0-0"}, "1.2.3": {"2.0.0-0", "1.3.0-0"},
		"1." + most + ".0": {"2.0.0-0", ""}, "2.0.0-0": {"3.0.0-0", "2.1.0-0"}, "2.0.0": {"3.0.0-0", "2.1.0-0"}, most + ".0.0": {"", most + ".1.0-0"}, most + "." + most + "." + most: {"", ""},
	}
}

// gaps tells which of the gaps between one cut and the next one are in a set, by bits: the i-th version's own gap is that of bit 2i+1.
type gaps uint64

// scale is versions without builds, rising.
type scale []string

// cuts are all of a scale's, from the lowest one to the highest one.
func (s scale) cuts() []api.Cut {
	l := []api.Cut{low()}
	for _, v := range s {
		l = append(l, ahead(v), behind(v))
	}
	return append(l, high())
}

// every is all gaps.
func (s scale) every() gaps { return 1<<(2*len(s)+1) - 1 }

// upTo is the gaps ahead of a cut's place.
func upTo(place int) gaps { return 1<<place - 1 }

// place is where a version's CutAhead stands among the cuts; of no version the highest cut.
func (s scale) place(v string) int {
	if v == "" {
		return 2*len(s) + 1
	}
	i := slices.Index(s, v)
	if i < 0 {
		panic(v + " is unknown")
	}
	return 2*i + 1
}

// gapsOf is the gaps of a range whose versions, and what they end at, are all known.
func (s scale) gapsOf(r api.Range) gaps {
	v := r.V
	v.Build = nil
	text := semver.Text(v)
	switch r.Kind {
	case api.RangeAll:
		return s.every()
	case api.RangeGe:
		return s.every() &^ upTo(s.place(text))
	case api.RangeGt:
		return s.every() &^ upTo(s.place(text)+1)
	case api.RangeLe:
		return upTo(s.place(text) + 1)
	case api.RangeLt:
		return upTo(s.place(text))
	case api.RangeEq:
		return 1 << s.place(text)
	case api.RangeNe:
		return s.every() &^ (1 << s.place(text))
	case api.RangeCaret:
		return upTo(s.place(ends()[text][0])) &^ upTo(s.place(text))
	case api.RangeTilde:
		return upTo(s.place(ends()[text][1])) &^ upTo(s.place(text))
	case api.RangeNot:
		return s.every() &^ s.gapsOf(r.L[0])
	}
	one, both := gaps(0), s.every()
	for _, part := range r.L {
		g := s.gapsOf(part)
		one, both = one|g, both&g
	}
	if r.Kind == api.RangeOr {
		return one
	}
	return both
}

// set is the normal set of gaps: a span for each row of them.
func (s scale) set(g gaps) []api.Span {
	cuts := s.cuts()
	var l []api.Span
	for i := 0; i < len(cuts)-1; i++ {
		if g>>i&1 == 0 {
			continue
		}
		lo := i
		for i < len(cuts)-1 && g>>i&1 == 1 {
			i++
		}
		l = append(l, from(cuts[lo], cuts[i]))
	}
	return l
}

// plain is the text of the plain range of gaps, as the chapter's words say it, by bytes: 1 is a gap that is in, 0 one that isn't, p a point.
func (s scale) plain(g gaps) string {
	if g == 0 {
		return "!*"
	}
	b := make([]byte, 2*len(s)+1)
	for i := range b {
		b[i] = "01"[g>>i&1]
	}
	for i := 1; i+1 < len(b); i += 2 {
		if string(b[i-1:i+2]) == "101" {
			b[i] = 'p'
		}
	}
	var told []string
	for at := 0; at < len(b); at++ {
		if b[at] == '0' {
			continue
		}
		n := len(b) - at
		if end := strings.IndexByte(string(b[at:]), '0'); end >= 0 {
			n = end
		}
		told = append(told, s.piece(string(b[at:at+n]), at))
		at += n
	}
	return strings.Join(told, " || ")
}

// piece is the text of a piece whose gaps are those from at on.
func (s scale) piece(b string, at int) string {
	if len(b) == 1 && at%2 == 1 {
		return "=" + s[at/2]
	}
	var parts []string
	if at > 0 {
		parts = append(parts, []string{">", ">="}[at%2]+s[(at-1)/2])
	}
	if end := at + len(b); end < 2*len(s)+1 {
		parts = append(parts, []string{"<=", "<"}[end%2]+s[(end-1)/2])
	}
	for i := range b {
		if b[i] == 'p' {
			parts = append(parts, "!="+s[(at+i)/2])
		}
	}
	if len(parts) == 0 {
		return "*"
	}
	return strings.Join(parts, ", ")
}

// says is a third way, which knows no sets: what an expression says of a right version, part by part.
func says(r api.Range, v api.Version) bool {
	c := prec.Compare(v, r.V)
	switch r.Kind {
	case api.RangeAll:
		return true
	case api.RangeGe:
		return c >= 0
	case api.RangeGt:
		return c > 0
	case api.RangeLe:
		return c <= 0
	case api.RangeLt:
		return c < 0
	case api.RangeEq:
		return c == 0
	case api.RangeNe:
		return c != 0
	case api.RangeCaret:
		l := []uint64{r.V.Major, r.V.Minor, r.V.Patch}
		n := 1
		for n < 3 && l[n-1] == 0 {
			n++
		}
		return c >= 0 && within(l[:n], v)
	case api.RangeTilde:
		return c >= 0 && within([]uint64{r.V.Major, r.V.Minor}, v)
	case api.RangeNot:
		return !says(r.L[0], v)
	case api.RangeAnd:
		return !slices.ContainsFunc(r.L, func(one api.Range) bool { return !says(one, v) })
	}
	return slices.ContainsFunc(r.L, func(one api.Range) bool { return says(one, v) })
}

// within tells whether a version stands ahead of the first of the core behind all that begin with some numbers, if the last one of them can be one more.
func within(l []uint64, v api.Version) bool {
	return l[len(l)-1] == math.MaxInt64 || slices.Compare([]uint64{v.Major, v.Minor, v.Patch}[:len(l)], l) <= 0
}

// builds are rows of builds, right ones.
func builds() [][]string {
	return [][]string{nil, {}, {"b"}, {"00", "1"}, slices.Repeat([]string{"z"}, api.MaxParts)}
}

// ofVersions are ranges of every kind without ranges in it, of all rising versions of which the ends are known.
func ofVersions(build []string) []api.Range {
	l := []api.Range{all()}
	for _, s := range rising() {
		v := version(s)
		v.Build = build
		for kind := api.RangeGe; kind <= api.RangeNe; kind++ {
			l = append(l, api.Range{Kind: kind, V: v})
		}
		if _, known := ends()[s]; known {
			l = append(l, api.Range{Kind: api.RangeCaret, V: v}, api.Range{Kind: api.RangeTilde, V: v})
		}
	}
	return l
}

// some are ranges of every kind, few enough to be put into one another.
func some() []api.Range {
	l := []api.Range{all(), not(all())}
	for kind := api.RangeGe; kind <= api.RangeTilde; kind++ {
		l = append(l, of(kind, "1.0.0"), of(kind, "1.0.0-rc.2+b"))
	}
	return append(l, of(api.RangeLt, "2.0.0"), of(api.RangeNe, "0.0.3"), of(api.RangeCaret, "0.2.3-a"), and(of(api.RangeGe, "0.0.3"), of(api.RangeNe, "1.0.0")), or(is("0.0.0-0"), of(api.RangeGt, "2.0.0")), not(of(api.RangeTilde, "1.2.3")))
}

// checkRange asks all of a right range whose versions are all known.
func checkRange(t *testing.T, r api.Range) {
	t.Helper()
	s := scale(rising())
	g := s.gapsOf(r)
	if got, want := Of(r), s.set(g); !likeSet(got, want) || !span.Good(got) {
		t.Fatalf("Of(%s) = %v, want %v", rangeexpr.Text(r), got, want)
	}
	if got := Empty(r); got != (g == 0) {
		t.Fatalf("Empty(%s) = %v", rangeexpr.Text(r), got)
	}
	got := Simple(r)
	if text, want := rangeexpr.Text(got), s.plain(g); text != want || !rangeexpr.Good(got) || !like(got, expr(want)) {
		t.Fatalf("Simple(%s) = %s, want %s", rangeexpr.Text(r), text, want)
	}
	if again := Simple(got); !like(again, got) {
		t.Fatalf("Simple of Simple of %s = %s, want %s", rangeexpr.Text(r), rangeexpr.Text(again), rangeexpr.Text(got))
	}
}

// P7.1: the set of each kind, by hand: with a release and with a build, with ends and without.
func TestSetsOfTheKinds(t *testing.T) {
	for s, want := range map[string][]api.Span{
		"*": whole(), ">=1.2.3": spans(from(ahead("1.2.3"), high())), ">1.2.3": spans(from(behind("1.2.3"), high())), "<=1.2.3": spans(from(low(), behind("1.2.3"))), "<1.2.3": spans(from(low(), ahead("1.2.3"))),
		"=1.2.3": spans(only("1.2.3")), "1.2.3": spans(only("1.2.3")), "!=1.2.3": spans(from(low(), ahead("1.2.3")), from(behind("1.2.3"), high())), "^1.2.3": spans(from(ahead("1.2.3"), ahead("2.0.0-0"))), "~1.2.3": spans(from(ahead("1.2.3"), ahead("1.3.0-0"))),
		">=1.0.0-rc.1+b": spans(from(ahead("1.0.0-rc.1"), high())), ">1.0.0-rc.1+b": spans(from(behind("1.0.0-rc.1"), high())), "<=1.0.0-rc.1+b": spans(from(low(), behind("1.0.0-rc.1"))), "<1.0.0-rc.1+b": spans(from(low(), ahead("1.0.0-rc.1"))),
		"=1.0.0-rc.1+b": spans(only("1.0.0-rc.1")), "!=1.0.0-rc.1+b": spans(from(low(), ahead("1.0.0-rc.1")), from(behind("1.0.0-rc.1"), high())), "^1.0.0-rc.1+b": spans(from(ahead("1.0.0-rc.1"), ahead("2.0.0-0"))), "~1.0.0-rc.1+b": spans(from(ahead("1.0.0-rc.1"), ahead("1.1.0-0"))),
		"^0.2.3": spans(from(ahead("0.2.3"), ahead("0.3.0-0"))), "^0.0.3+b": spans(from(ahead("0.0.3"), ahead("0.0.4-0"))), "^0.0.0": spans(from(ahead("0.0.0"), ahead("0.0.1-0"))), "^0.0.0-0": spans(from(ahead("0.0.0-0"), ahead("0.0.1-0"))), "~0.0.0": spans(from(ahead("0.0.0"), ahead("0.1.0-0"))), "~0.0.0-a+b": spans(from(ahead("0.0.0-a"), ahead("0.1.0-0"))),
		"^" + most + ".0.0": spans(from(ahead(most+".0.0"), high())), "^0." + most + ".1+b": spans(from(ahead("0."+most+".1"), high())), "^0.0." + most: spans(from(ahead("0.0."+most), high())), "~1." + most + ".0": spans(from(ahead("1."+most+".0"), high())), "~" + most + ".0.0": spans(from(ahead(most+".0.0"), ahead(most+".1.0-0"))),
		"^1." + most + "." + most: spans(from(ahead("1."+most+"."+most), ahead("2.0.0-0"))), "^0.1." + most: spans(from(ahead("0.1."+most), ahead("0.2.0-0"))), "~1.2." + most: spans(from(ahead("1.2."+most), ahead("1.3.0-0"))),
		">=0.0.0-0": spans(from(ahead("0.0.0-0"), high())), "<0.0.0-0": spans(from(low(), ahead("0.0.0-0"))), ">0.0.0": spans(from(behind("0.0.0"), high())), "=0.0.0": spans(only("0.0.0")),
	} {
		if got := Of(expr(s)); !likeSet(got, want) {
			t.Errorf("Of(%s) = %v, want %v", s, got, want)
		}
		if Empty(expr(s)) {
			t.Errorf("Empty(%s)", s)
		}
	}
}

// P7.1: And, Or and Not within one another, by hand; sets without spans, and of all versions.
func TestSetsOfRangesWithinOneAnother(t *testing.T) {
	for s, want := range map[string][]api.Span{
		"!*": nil, "!!*": whole(), "1.0.0 2.0.0": nil, "!* || !*": nil, "* !*": nil, "* || !*": whole(), "<1.0.0 >1.0.0": nil, "<1.0.0 =1.0.0": nil, ">=1.0.0 <1.0.0": nil, ">1.0.0 <1.0.1-0": spans(from(behind("1.0.0"), ahead("1.0.1-0"))), "^1.0.0 !^1.0.0": nil,
		"<1.0.0 || >=1.0.0": whole(), "<=1.0.0 || >1.0.0": whole(), "<2.0.0 || >1.0.0": whole(), "^1.0.0 || !^1.0.0": whole(), "!=1.0.0 || !=2.0.0": whole(), "!=1.0.0 || 1.0.0+b": whole(),
		"!=1.0.0 !=2.0.0": spans(from(low(), ahead("1.0.0")), from(behind("1.0.0"), ahead("2.0.0")), from(behind("2.0.0"), high())), "!(1.0.0 || 2.0.0)": spans(from(low(), ahead("1.0.0")), from(behind("1.0.0"), ahead("2.0.0")), from(behind("2.0.0"), high())),
		"^1.0.0 || ^2.0.0": spans(from(ahead("1.0.0"), ahead("2.0.0-0")), from(ahead("2.0.0"), ahead("3.0.0-0"))), "^1.0.0 || ^2.0.0-0": spans(from(ahead("1.0.0"), ahead("3.0.0-0"))), "^1.0.0 ~1.2.0": spans(from(ahead("1.2.0"), ahead("1.3.0-0"))), "^1.0.0 || ~1.2.0": spans(from(ahead("1.0.0"), ahead("2.0.0-0"))),
		"!(^1.0.0 || ^3.0.0)": spans(from(low(), ahead("1.0.0")), from(ahead("2.0.0-0"), ahead("3.0.0")), from(ahead("4.0.0-0"), high())), "!(!<1.0.0 !>=2.0.0)": spans(from(low(), ahead("1.0.0")), from(ahead("2.0.0"), high())), "(<1.0.0 || >=2.0.0) !=0.5.0": spans(from(low(), ahead("0.5.0")), from(behind("0.5.0"), ahead("1.0.0")), from(ahead("2.0.0"), high())),
		">=1.0.0 <=1.0.0": spans(only("1.0.0")), "(1.0.0 || 2.0.0) (2.0.0 || 3.0.0)": spans(only("2.0.0")), "1.0.0 || 2.0.0 2.0.0 || 3.0.0": spans(only("1.0.0"), only("2.0.0"), only("3.0.0")), "3.0.0 || 1.0.0 || 2.0.0": spans(only("1.0.0"), only("2.0.0"), only("3.0.0")), "1.0.0+a 1.0.0+b": spans(only("1.0.0")), "1.0.0+a || 1.0.0+b": spans(only("1.0.0")),
		"1.0.0 !=1.0.0+b": nil, ">=1.0.0 || <0.5.0 || =0.7.0": spans(from(low(), ahead("0.5.0")), only("0.7.0"), from(ahead("1.0.0"), high())), ">=1.0.0, <2.0.0, !=1.5.0": spans(from(ahead("1.0.0"), ahead("1.5.0")), from(behind("1.5.0"), ahead("2.0.0"))),
	} {
		r := expr(s)
		if got := Of(r); !likeSet(got, want) {
			t.Errorf("Of(%s) = %v, want %v", s, got, want)
		}
		if got := Empty(r); got != (len(want) == 0) {
			t.Errorf("Empty(%s) = %v", s, got)
		}
	}
}

// P7.1 and P7.2: ranges of every kind, of all versions that are known, with builds and without.
func TestRangesOfVersions(t *testing.T) {
	for _, build := range builds() {
		for _, r := range ofVersions(build) {
			checkRange(t, r)
			checkRange(t, not(r))
			checkRange(t, not(not(r)))
		}
	}
}

// P7.1 and P7.2: each with each, in And and in Or.
func TestRangesOfTwoVersions(t *testing.T) {
	l := ofVersions([]string{"b"})
	for i, a := range l {
		for k := i % 3; k < len(l); k += 3 {
			checkRange(t, and(a, l[k]))
			checkRange(t, or(a, l[k]))
		}
	}
}

// P7.1 and P7.2: And, Or and Not within one another, of two and of three.
func TestRangesWithinOneAnother(t *testing.T) {
	l := some()
	for i, a := range l {
		for k, b := range l {
			c := l[(3*i+5*k)%len(l)]
			for _, r := range []api.Range{and(a, b, c), or(a, b, c), and(or(a, b), c), or(and(a, b), c), and(a, not(or(b, c))), or(a, not(and(b, c))), not(and(or(not(a), b), or(not(b), c))), not(or(and(a, not(b)), and(b, not(c)))), and(and(a, b), and(b, c)), or(or(a, b), or(b, c)), or(and(a, or(b, c)), not(a))} {
				checkRange(t, r)
			}
		}
	}
}

// P7.1 and P7.3: which versions a range has, by hand.
func TestHasOfSomeRanges(t *testing.T) {
	for s, l := range map[string][2]string{
		"*": {"0.0.0-0 0.0.0 1.0.0-a+b " + most + ".0.0", ""}, "!*": {"", "0.0.0-0 0.0.0 1.0.0-a+b " + most + ".0.0"},
		">=1.0.0": {"1.0.0 1.0.0+b 1.0.1-0 2.0.0", "1.0.0-rc.1 0.9.9 0.0.0-0"}, ">1.0.0+b": {"1.0.1-0 1.0.1+c", "1.0.0 1.0.0+b 1.0.0+c 1.0.0-a"}, "<=1.0.0+b": {"1.0.0 1.0.0+c 1.0.0-a 0.0.0", "1.0.1-0 1.0.1"}, "<1.0.0": {"1.0.0-0 1.0.0-rc.1+b 0.9.9", "1.0.0 1.0.0+b 1.0.1"},
		"1.0.0+b": {"1.0.0 1.0.0+b 1.0.0+c", "1.0.0-a 1.0.1-0 1.0.1"}, "!=1.0.0+b": {"1.0.0-a 1.0.1-0", "1.0.0 1.0.0+b 1.0.0+c"}, "=1.0.0-rc.1": {"1.0.0-rc.1 1.0.0-rc.1+b", "1.0.0 1.0.0-rc.10 1.0.0-rc 1.0.0-rc.1.0"},
		"^1.2.3": {"1.2.3 1.2.4-0 1.9.0-a 1.9.0 1." + most + ".0", "1.2.3-a 1.2.2 2.0.0-0 2.0.0-a 2.0.0"}, "^0.2.3": {"0.2.3 0.2.9", "0.3.0-0 0.3.0 0.2.2 0.2.3-z"}, "^0.0.3": {"0.0.3 0.0.3+b", "0.0.4-0 0.0.4 0.0.2"}, "^0.0.0": {"0.0.0", "0.0.0-a 0.0.1-0 0.0.1"}, "^1.2.3-rc.2": {"1.2.3-rc.2 1.2.3-rc.10 1.2.3 1.3.0-0", "1.2.3-rc.1 1.2.3-1 2.0.0-0"},
		"~1.2.3": {"1.2.3 1.2.9 1.2.10-a", "1.3.0-0 1.3.0-alpha 1.3.0 1.2.3-z 1.2.2"}, "~0.0.3": {"0.0.3 0.0.4 0.0." + most, "0.1.0-0 0.1.0 0.0.2"}, "~0.0.0-0": {"0.0.0-0 0.0.0 0.0.9", "0.1.0-0"}, "^" + most + ".2.0": {most + ".2.0 " + most + ".3.0", most + ".1.0 1.0.0"}, "~1." + most + ".0": {"1." + most + ".7 2.0.0 5.0.0", "1.2.0 0.0.0"}, "^0.0." + most: {"0.0." + most + " 0.1.0 1.0.0", "0.0.1"},
		"^1.0.0 !=1.3.0 || 3.0.0": {"1.0.0 1.2.9 1.3.1-0 3.0.0 3.0.0+b", "1.3.0 1.3.0+b 2.0.0-0 3.0.0-a 3.0.1"}, "!(<1.0.0 || >2.0.0)": {"1.0.0 1.5.0 2.0.0", "1.0.0-a 2.0.1-0"}, "!!(^1.0.0 ~1.2.0)": {"1.2.0 1.2.9", "1.1.9 1.3.0"}, ">1.0.0 <1.0.1-0": {"", "1.0.0 1.0.1-0 1.0.1 1.0.0-z"},
	} {
		r := expr(s)
		for _, v := range strings.Fields(l[0]) {
			if !Has(r, version(v)) {
				t.Errorf("%s doesn't have %s", s, v)
			}
		}
		for _, v := range strings.Fields(l[1]) {
			if Has(r, version(v)) {
				t.Errorf("%s has %s", s, v)
			}
		}
	}
}

// asked are right versions that lie at the edges of what is known, and between: with builds too.
func asked() []api.Version {
	var l []api.Version
	for _, s := range append(rising(), "0.0.0-a", "0.0.2", "0.0.3-a", "0.1.0", "0.2.3-0", "0.2.3", "0.9.0", "1.0.0-rc.3", "1.0.0-z", "1.0.1", "1.1.0", "1.2.3-a", "1.2.9", "1.5.0", "2.0.0-a", "2.0.1", "2.9.0", "7.0.0-a.b", most+".0.1") {
		l = append(l, version(s))
	}
	for i := range l {
		l[i].Build = builds()[i%len(builds())]
	}
	return l
}

// P7.3: Has tells what the expression says, part by part, and of the whole.
func TestHasTellsWhatTheExpressionSays(t *testing.T) {
	l := some()
	for i, a := range l {
		for k, b := range l {
			c := l[(7*i+k)%len(l)]
			for _, v := range asked() {
				x, y, z := Has(a, v), Has(b, v), Has(c, v)
				if x != says(a, v) {
					t.Fatalf("Has(%s, %s) = %v", rangeexpr.Text(a), semver.Text(v), x)
				}
				if Has(and(a, b, c), v) != (x && y && z) || Has(or(a, b, c), v) != (x || y || z) || Has(not(a), v) != !x || Has(and(not(a), or(b, c)), v) != (!x && (y || z)) {
					t.Fatalf("Has of %s, %s and %s, together and apart, of %s", rangeexpr.Text(a), rangeexpr.Text(b), rangeexpr.Text(c), semver.Text(v))
				}
			}
		}
	}
	for _, r := range ofVersions([]string{"b"}) {
		for _, v := range asked() {
			if Has(r, v) != says(r, v) || Has(not(r), v) == says(r, v) || Has(Simple(r), v) != says(r, v) {
				t.Fatalf("Has(%s, %s) isn't %v", rangeexpr.Text(r), semver.Text(v), says(r, v))
			}
		}
	}
}

// wrongVersions are versions that aren't right.
func wrongVersions() []api.Version {
	return []api.Version{
		{Major: 1 << 63}, {Minor: math.MaxUint64}, {Major: 1, Patch: 1 << 63}, {Pre: []string{""}}, {Major: 1, Pre: []string{"01"}}, {Pre: []string{"a.b"}}, {Major: 1, Pre: []string{"\xff"}}, {Pre: []string{"a", "+"}},
		{Major: 1, Build: []string{""}}, {Major: 1, Build: []string{"b", "_"}}, {Major: 1, Pre: slices.Repeat([]string{"a"}, api.MaxParts+1)}, {Major: 1, Build: slices.Repeat([]string{"a"}, api.MaxParts+1)}, {Major: 1, Pre: []string{strings.Repeat("a", api.MaxIdent+1)}}, {Major: 1, Build: []string{strings.Repeat("a", api.MaxIdent+1)}},
	}
}

// P7.1: a version that isn't right is in no range's set, whatever the range; nor is it in what is left out.
func TestHasOfWrongVersions(t *testing.T) {
	for _, v := range wrongVersions() {
		for _, r := range append(some(), ofVersions(nil)...) {
			if Has(r, v) || Has(not(r), v) {
				t.Errorf("%s, or what it leaves out, has %.80v", rangeexpr.Text(r), v)
			}
		}
	}
}

// wrong are ranges that aren't right, each for one reason: Kind, version, ranges, depth.
func wrong() []api.Range {
	var l []api.Range
	for _, kind := range []int{-1, -2, 12, 13, 256, 257, 1 << 32, 1<<32 + 1, 1<<32 + 9, 1<<32 + 11, math.MinInt, math.MaxInt} {
		l = append(l, api.Range{Kind: kind}, of(kind, "1.0.0"), api.Range{Kind: kind, L: []api.Range{all()}}, api.Range{Kind: kind, L: []api.Range{all(), is("1.0.0")}})
	}
	for kind := api.RangeGe; kind <= api.RangeTilde; kind++ {
		for _, v := range wrongVersions() {
			l = append(l, api.Range{Kind: kind, V: v})
		}
		l = append(l, api.Range{Kind: kind, V: version("1.0.0"), L: []api.Range{all()}}, api.Range{Kind: kind, V: version("1.0.0"), L: []api.Range{all(), all()}})
	}
	for _, v := range []api.Version{version("1.0.0"), version("0.0.1"), version("0.0.0-0"), version("0.0.0+b"), {Pre: []string{""}}, {Major: 1 << 63}} {
		l = append(l, api.Range{V: v}, api.Range{Kind: api.RangeAnd, V: v, L: []api.Range{all(), all()}}, api.Range{Kind: api.RangeOr, V: v, L: []api.Range{all(), all()}}, api.Range{Kind: api.RangeNot, V: v, L: []api.Range{all()}})
	}
	one := is("1.0.0")
	l = append(l, api.Range{L: []api.Range{one}}, and(), or(), not(), and(one), or(one), not(one, one), not(one, all(), one), and(and(one, one)), or(or(one, one)))
	deep := func(r api.Range) api.Range { return not(r) }
	lists := func(r api.Range) api.Range { return and(or(one, r), all()) }
	return append(l, nested(one, api.MaxDeep+1, deep), nested(and(one, one), api.MaxDeep, deep), nested(one, api.MaxDeep+1, lists))
}

// checkWrong asks all of a range that isn't right.
func checkWrong(t *testing.T, r api.Range) {
	t.Helper()
	if got := Of(r); len(got) != 0 {
		t.Errorf("Of(%.200v) = %v", r, got)
	}
	if Empty(r) {
		t.Errorf("Empty(%.200v)", r)
	}
	if got := Simple(r); !like(got, api.Range{}) {
		t.Errorf("Simple(%.200v) = %v", r, got)
	}
	for _, v := range append(asked(), r.V) {
		if Has(r, v) {
			t.Errorf("Has(%.200v, %.80v)", r, v)
		}
	}
}

// P7.1 and P7.2: ranges that aren't right have nothing, and aren't empty, alone and wherever they stand in others.
func TestWrongRanges(t *testing.T) {
	for _, r := range wrong() {
		checkWrong(t, r)
		checkWrong(t, not(r))
		checkWrong(t, not(not(r)))
		for _, outer := range []func(...api.Range) api.Range{and, or} {
			checkWrong(t, outer(r, all()))
			checkWrong(t, outer(not(all()), r))
			checkWrong(t, outer(is("1.0.0"), not(r), all()))
			checkWrong(t, outer(is("1.0.0"), all(), and(or(all(), r), all())))
		}
	}
}

// P7.1: the deepest ranges that are right are told of, those one deeper not.
func TestTheDeepestRanges(t *testing.T) {
	deep := func(r api.Range) api.Range { return not(r) }
	even := nested(is("1.0.0"), api.MaxDeep, deep)
	if got := Of(even); !likeSet(got, spans(only("1.0.0"))) || !Has(even, version("1.0.0+b")) || Has(even, version("1.0.1")) {
		t.Errorf("64 signs of not: %v", got)
	}
	if got := Of(nested(is("1.0.0"), api.MaxDeep-1, deep)); !likeSet(got, Of(of(api.RangeNe, "1.0.0"))) {
		t.Errorf("63 signs of not: %v", got)
	}
	lists := nested(is("1.0.0"), api.MaxDeep, func(r api.Range) api.Range { return and(or(r, is("2.0.0")), of(api.RangeNe, "2.0.0")) })
	if got := Of(lists); !likeSet(got, spans(only("1.0.0"))) || Empty(lists) || !like(Simple(lists), is("1.0.0")) {
		t.Errorf("64 lists: %v", got)
	}
	if got := Of(or(lists, of(api.RangeGe, "2.0.0"))); !likeSet(got, spans(only("1.0.0"), from(ahead("2.0.0"), high()))) {
		t.Errorf("64 lists beside another range: %v", got)
	}
	checkWrong(t, not(even))
	checkWrong(t, not(lists))
}

// P7.1: rows without identifiers are alike, and a range's rows are read by their lengths.
func TestRowsWithoutIdentifiers(t *testing.T) {
	room := []string{"a", "b"}
	for _, none := range [][]string{nil, {}, room[:0]} {
		for kind := api.RangeGe; kind <= api.RangeTilde; kind++ {
			r := api.Range{Kind: kind, V: api.Version{Major: 1, Pre: none, Build: none}, L: []api.Range{}}
			if want := Of(of(kind, "1.0.0")); !likeSet(Of(r), want) || !like(Simple(r), Simple(of(kind, "1.0.0"))) {
				t.Errorf("Of(%#v) = %v, want %v", r, Of(r), want)
			}
			r.V.Pre, r.V.Build = room[:1], room[1:]
			if want := Of(of(kind, "1.0.0-a+b")); !likeSet(Of(r), want) {
				t.Errorf("Of(%#v) = %v, want %v", r, Of(r), want)
			}
		}
		if !Has(is("1.0.0"), api.Version{Major: 1, Pre: none, Build: none}) || !Has(api.Range{V: api.Version{Pre: none, Build: none}}, version("1.0.0")) {
			t.Errorf("Has with rows of %#v", none)
		}
	}
}

// P7.2: plain ranges, by hand: parts of none, one and more, their order, points at the edges, pieces side by side.
func TestPlainOfSomeSets(t *testing.T) {
	ne := func(s string) api.Range { return of(api.RangeNe, s) }
	ge, gt, le, lt := of(api.RangeGe, "1.0.0"), of(api.RangeGt, "1.0.0"), of(api.RangeLe, "2.0.0"), of(api.RangeLt, "2.0.0")
	for i, c := range []struct {
		l    []api.Span
		want api.Range
	}{
		{nil, not(all())}, {[]api.Span{}, not(all())}, {whole()[:0], not(all())}, {whole(), all()},
		{spans(from(ahead("1.0.0"), high())), ge}, {spans(from(behind("1.0.0"), high())), gt}, {spans(from(low(), behind("2.0.0"))), le}, {spans(from(low(), ahead("2.0.0"))), lt},
		{spans(from(ahead("1.0.0"), behind("2.0.0"))), and(ge, le)}, {spans(from(ahead("1.0.0"), ahead("2.0.0"))), and(ge, lt)}, {spans(from(behind("1.0.0"), behind("2.0.0"))), and(gt, le)}, {spans(from(behind("1.0.0"), ahead("2.0.0"))), and(gt, lt)},
		{spans(only("1.0.0")), is("1.0.0")}, {spans(only("0.0.0")), is("0.0.0")}, {spans(only("1.0.0-rc.1")), is("1.0.0-rc.1")}, {spans(only("1.0.0"), only("2.0.0")), or(is("1.0.0"), is("2.0.0"))},
		{spans(from(low(), ahead("0.0.0"))), of(api.RangeLt, "0.0.0")}, {spans(from(low(), behind("0.0.0"))), of(api.RangeLe, "0.0.0")}, {spans(from(behind("0.0.0"), high())), of(api.RangeGt, "0.0.0")},
		{spans(from(low(), ahead("1.0.0")), from(behind("1.0.0"), high())), ne("1.0.0")}, {spans(from(low(), ahead("0.0.0")), from(behind("0.0.0"), high())), ne("0.0.0")}, {spans(from(low(), ahead("1.0.0")), from(behind("1.0.0"), ahead("3.0.0")), from(behind("3.0.0"), high())), and(ne("1.0.0"), ne("3.0.0"))},
		{spans(from(low(), ahead("1.0.0")), from(behind("1.0.0"), ahead("2.0.0"))), and(lt, ne("1.0.0"))}, {spans(from(ahead("1.0.0"), ahead("3.0.0")), from(behind("3.0.0"), high())), and(ge, ne("3.0.0"))},
		{spans(from(behind("1.0.0"), ahead("1.5.0")), from(behind("1.5.0"), ahead("1.6.0")), from(behind("1.6.0"), behind("2.0.0"))), and(gt, le, ne("1.5.0"), ne("1.6.0"))},
		{spans(from(behind("1.0.0"), ahead("1.0.1-0")), from(behind("1.0.1-0"), ahead("2.0.0"))), and(gt, lt, ne("1.0.1-0"))},
		{spans(from(low(), ahead("1.0.0")), from(ahead("2.0.0"), high())), or(of(api.RangeLt, "1.0.0"), of(api.RangeGe, "2.0.0"))}, {spans(from(low(), ahead("1.0.0")), from(behind("2.0.0"), high())), or(of(api.RangeLt, "1.0.0"), of(api.RangeGt, "2.0.0"))}, {spans(from(low(), behind("1.0.0")), from(behind("1.0.1-0"), high())), or(of(api.RangeLe, "1.0.0"), of(api.RangeGt, "1.0.1-0"))},
		{spans(from(low(), behind("1.0.0")), from(ahead("1.0.1-0"), high())), or(of(api.RangeLe, "1.0.0"), of(api.RangeGe, "1.0.1-0"))}, {spans(from(low(), ahead("1.0.0-0")), from(behind("1.0.0"), high())), or(of(api.RangeLt, "1.0.0-0"), gt)},
		{spans(only("1.0.0"), from(behind("2.0.0"), ahead("3.0.0")), from(behind("3.0.0"), high())), or(is("1.0.0"), and(of(api.RangeGt, "2.0.0"), ne("3.0.0")))}, {spans(from(low(), ahead("1.0.0")), from(behind("1.0.0"), behind("2.0.0")), only("3.0.0")), or(and(le, ne("1.0.0")), is("3.0.0"))},
		{spans(from(low(), ahead("1.0.0")), from(behind("1.0.0"), ahead("2.0.0")), from(ahead("3.0.0"), ahead("4.0.0")), from(behind("4.0.0"), high())), or(and(lt, ne("1.0.0")), and(of(api.RangeGe, "3.0.0"), ne("4.0.0")))},
		{spans(from(low(), ahead("0.5.0")), only("1.0.0"), from(behind("2.0.0"), ahead("3.0.0")), only("4.0.0"), only("5.0.0-a"), from(behind("6.0.0"), high())), or(of(api.RangeLt, "0.5.0"), is("1.0.0"), and(of(api.RangeGt, "2.0.0"), of(api.RangeLt, "3.0.0")), is("4.0.0"), is("5.0.0-a"), of(api.RangeGt, "6.0.0"))},
		{spans(from(low(), ahead("0.0.0")), from(behind("0.0.0"), ahead("0.0.1"))), and(of(api.RangeLt, "0.0.1"), ne("0.0.0"))}, {spans(only("0.0.0"), only("0.0.1")), or(is("0.0.0"), is("0.0.1"))},
	} {
		got := Plain(c.l)
		if !like(got, c.want) || !rangeexpr.Good(got) {
			t.Errorf("%d: Plain = %s, want %s", i, rangeexpr.Text(got), rangeexpr.Text(c.want))
		}
		if back := Of(got); !likeSet(back, c.l) {
			t.Errorf("%d: Of(Plain) = %v, want %v", i, back, c.l)
		}
		if again := Simple(got); !like(again, c.want) {
			t.Errorf("%d: Simple(Plain) = %s, want %s", i, rangeexpr.Text(again), rangeexpr.Text(c.want))
		}
	}
}

// P7.2 and P7.3: the plain range of every normal set between some cuts.
func TestPlainOfAllNormalSets(t *testing.T) {
	s := scale(few())
	for g := range s.every() + 1 {
		l, want := s.set(g), s.plain(g)
		got := Plain(l)
		if text := rangeexpr.Text(got); text != want || !like(got, expr(want)) || !rangeexpr.Good(got) {
			t.Fatalf("Plain(%v) = %s, want %s", l, text, want)
		}
		if back := Of(got); !likeSet(back, l) {
			t.Fatalf("Of(%s) = %v, want %v", want, back, l)
		}
		if again := Simple(got); !like(again, got) || Empty(got) != (g == 0) {
			t.Fatalf("Simple(%s) = %s", want, rangeexpr.Text(again))
		}
	}
}

// wrongCuts are cuts that aren't right: of a Kind that is none, of a version that isn't right or has a build, of a version where none counts.
func wrongCuts() []api.Cut {
	l := []api.Cut{{Kind: -1}, {Kind: 4}, {Kind: 1 << 32}, {Kind: -1, V: version("1.0.0")}, {Kind: 4, V: version("1.0.0")}, {Kind: math.MinInt}, {Kind: math.MaxInt}, {Kind: api.CutLow, V: version("1.0.0")}, {Kind: api.CutHigh, V: version("0.0.0+b")}, ahead("1.0.0+b"), behind("1.0.0-rc.1+b")}
	for _, v := range wrongVersions() {
		l = append(l, api.Cut{Kind: api.CutAhead, V: v}, api.Cut{Kind: api.CutBehind, V: v})
	}
	return l
}

// P7.2: lists that aren't normal: all of two spans between some cuts, in whatever order, over one another, without anything between.
func TestPlainOfOtherLists(t *testing.T) {
	s := scale(few()[1:4])
	cuts := s.cuts()
	type known struct {
		span api.Span
		g    gaps
	}
	var l []known
	for i, lo := range cuts {
		for k, hi := range cuts {
			l = append(l, known{from(lo, hi), upTo(k) &^ upTo(i)})
		}
	}
	for _, a := range l {
		for _, b := range l {
			got, want := Plain(spans(a.span, b.span)), s.plain(a.g|b.g)
			if rangeexpr.Text(got) != want || !like(got, expr(want)) {
				t.Fatalf("Plain(%v, %v) = %s, want %s", a.span, b.span, rangeexpr.Text(got), want)
			}
		}
	}
}

// P7.2: spans with a cut that isn't right count for nothing, wherever they stand.
func TestPlainOfWrongCuts(t *testing.T) {
	one, two := from(ahead("1.0.0"), ahead("2.0.0")), from(behind("3.0.0"), high())
	want := or(and(of(api.RangeGe, "1.0.0"), of(api.RangeLt, "2.0.0")), of(api.RangeGt, "3.0.0"))
	for _, w := range wrongCuts() {
		for _, bad := range []api.Span{from(w, high()), from(low(), w), from(w, w), from(ahead("0.5.0"), w), from(w, behind("9.0.0"))} {
			if got := Plain(spans(bad)); !like(got, not(all())) {
				t.Errorf("Plain(%.80v) = %s", bad, rangeexpr.Text(got))
			}
			for _, l := range [][]api.Span{spans(bad, one, two), spans(one, bad, two), spans(one, two, bad), spans(two, bad, one, bad)} {
				if got := Plain(l); !like(got, want) {
					t.Errorf("Plain(%.300v) = %s, want %s", l, rangeexpr.Text(got), rangeexpr.Text(want))
				}
			}
		}
	}
}

// P7.2: Simple, by hand.
func TestSimpleOfSomeRanges(t *testing.T) {
	for s, want := range map[string]string{
		"*": "*", "!*": "!*", "!!*": "*", "1.0.0": "=1.0.0", "1.0.0+b": "=1.0.0", ">=1.0.0+b": ">=1.0.0", ">1.0.0-a+b": ">1.0.0-a", "<=1.0.0": "<=1.0.0", "<1.0.0": "<1.0.0", "!=1.0.0+b": "!=1.0.0", "^1.2.3": ">=1.2.3, <2.0.0-0", "~1.2.3-a+b": ">=1.2.3-a, <1.3.0-0", "^" + most + ".0.0": ">=" + most + ".0.0", "~0." + most + ".0": ">=0." + most + ".0",
		"^1.2.0, !=1.3.0": ">=1.2.0, <2.0.0-0, !=1.3.0", "!=1.3.0 ^1.2.0": ">=1.2.0, <2.0.0-0, !=1.3.0", "^1.2.0 !=1.2.0": ">1.2.0, <2.0.0-0", "^1.2.0 !=2.0.0": ">=1.2.0, <2.0.0-0", "<=1.0.0 !=1.0.0": "<1.0.0", "!=1.0.0 !=1.0.0": "!=1.0.0", "!=2.0.0 !=1.0.0": "!=1.0.0, !=2.0.0", "!(1.0.0 || 2.0.0 || 1.5.0)": "!=1.0.0, !=1.5.0, !=2.0.0",
		"<1.0.0 || >1.0.0": "!=1.0.0", "<1.0.0 || >=1.0.0": "*", "<=1.0.0 || >1.0.0": "*", "<1.0.0 || 1.0.0": "<=1.0.0", ">1.0.0 || 1.0.0": ">=1.0.0", ">=1.0.0 <=1.0.0": "=1.0.0", ">1.0.0 <=1.0.0": "!*", ">1.0.0 <1.0.1-0": ">1.0.0, <1.0.1-0", "<=1.0.0 || >=1.0.1-0": "<=1.0.0 || >=1.0.1-0", "<=1.0.0 || >1.0.1-0": "<=1.0.0 || >1.0.1-0",
		"2.0.0 || 1.0.0": "=1.0.0 || =2.0.0", "1.0.0+a || 1.0.0+b": "=1.0.0", "^1.0.0 || ^2.0.0": ">=1.0.0, <2.0.0-0 || >=2.0.0, <3.0.0-0", "^2.0.0 || ^1.0.0 || ^2.0.0-0": ">=1.0.0, <3.0.0-0", "^1.0.0 || 3.0.0 || >5.0.0 !=6.0.0": ">=1.0.0, <2.0.0-0 || =3.0.0 || >5.0.0, !=6.0.0", "!(>=1.0.0, <2.0.0)": "<1.0.0 || >=2.0.0", "<1.0.0 !=0.5.0 || >2.0.0 !=3.0.0": "<1.0.0, !=0.5.0 || >2.0.0, !=3.0.0",
		"((1.0.0 || 2.0.0), !=2.0.0) || !(!3.0.0)": "=1.0.0 || =3.0.0", "=0.0.0": "=0.0.0", "!=0.0.0": "!=0.0.0", "<0.0.0-0": "<0.0.0-0", ">=0.0.0-0": ">=0.0.0-0",
	} {
		got := Simple(expr(s))
		if text := rangeexpr.Text(got); text != want || !like(got, expr(want)) || !rangeexpr.Good(got) {
			t.Errorf("Simple(%s) = %s, want %s", s, text, want)
		}
		if again := Simple(got); !like(again, got) {
			t.Errorf("Simple of Simple of %s = %s, want %s", s, rangeexpr.Text(again), want)
		}
		if back := Of(got); !likeSet(back, Of(expr(s))) {
			t.Errorf("Of of Simple of %s = %v, want %v", s, back, Of(expr(s)))
		}
	}
}

// P1, P7.1 and P7.2: ranges and sets of many parts.
func TestManyParts(t *testing.T) {
	const n = 30000
	var ones, others []api.Range
	var l []api.Span
	for i := range n {
		v := api.Version{Minor: uint64(i * 7919 % n)}
		ones, others = append(ones, api.Range{Kind: api.RangeEq, V: v}), append(others, api.Range{Kind: api.RangeNe, V: v})
		v.Minor = uint64(i)
		l = append(l, api.Span{Lo: api.Cut{Kind: api.CutAhead, V: v}, Hi: api.Cut{Kind: api.CutBehind, V: v}})
	}
	if got := Of(or(ones...)); !likeSet(got, l) {
		t.Errorf("%d ones: a set of %d spans", n, len(got))
	}
	if got := Of(and(others...)); !likeSet(got, span.Not(l)) {
		t.Errorf("all but %d: a set of %d spans", n, len(got))
	}
	if got := Of(and(ones...)); len(got) != 0 || !Empty(and(ones...)) || !likeSet(Of(or(others...)), whole()) {
		t.Errorf("%d ones at once: a set of %d spans", n, len(got))
	}
	one, other := Plain(l), Simple(and(others...))
	if one.Kind != api.RangeOr || len(one.L) != n || !likeSet(Of(one), l) || other.Kind != api.RangeAnd || len(other.L) != n {
		t.Fatalf("plain ranges of %d and %d parts", len(one.L), len(other.L))
	}
	for i := range n {
		want := api.Version{Minor: uint64(i)}
		if !like(one.L[i], api.Range{Kind: api.RangeEq, V: want}) || !like(other.L[i], api.Range{Kind: api.RangeNe, V: want}) {
			t.Fatalf("part %d of plain ranges: %v, %v", i, one.L[i], other.L[i])
		}
	}
}

// P1 and R1: a range that nobody read may be nested deeper than calls can be: the room for calls is made small here, since a stack that is too small ends the program.
func TestRangesOfAnyDepth(t *testing.T) {
	const levels = 1 << 17
	defer debug.SetMaxStack(debug.SetMaxStack(1 << 20))
	for i, r := range []api.Range{
		nested(is("1.0.0"), levels, func(r api.Range) api.Range { return not(r) }),
		nested(all(), levels, func(r api.Range) api.Range { return and(or(all(), r), all()) }),
		nested(all(), levels, func(r api.Range) api.Range { return or(and(r, all()), all()) }),
	} {
		if len(Of(r)) != 0 || Empty(r) || Has(r, version("1.0.0")) || !like(Simple(r), api.Range{}) {
			t.Errorf("%d: a range of %d levels is right", i, levels)
		}
	}
}

// P1: a range that has itself within isn't right.
func TestARangeWithinItself(t *testing.T) {
	for _, kind := range []int{api.RangeNot, api.RangeAnd, api.RangeOr} {
		l := make([]api.Range, 2)
		l[0], l[1] = api.Range{Kind: kind, L: l}, api.Range{Kind: api.RangeAnd, L: l}
		if kind == api.RangeNot {
			l = l[:1]
			l[0].L = l
		}
		r := api.Range{Kind: kind, L: l}
		if len(Of(r)) != 0 || Empty(r) || Has(r, version("1.0.0")) || !like(Simple(r), api.Range{}) {
			t.Errorf("kind %d: a range within itself is right", kind)
		}
	}
}

// roomyRange is a range whose lists have more memory behind their lengths, and that memory.
func roomyRange() (r api.Range, room []api.Range, texts []string) {
	texts = []string{"rc", "1", "b", "z"}
	v := func(major uint64) api.Version { return api.Version{Major: major, Pre: texts[:2], Build: texts[2:3]} }
	caret, tilde := api.Range{Kind: api.RangeCaret, V: v(2)}, api.Range{Kind: api.RangeTilde, V: v(3)}
	room = []api.Range{{Kind: api.RangeEq, V: v(1)}, caret, and(tilde, api.Range{Kind: api.RangeNe, V: api.Version{Major: 3, Pre: texts[:2:2]}}), {Kind: api.RangeLt, V: v(0)}, and(api.Range{Kind: api.RangeGe, V: v(5)}, api.Range{Kind: api.RangeNe, V: v(6)}, api.Range{Kind: api.RangeNe, V: v(7)}), {Kind: 99}, {Kind: 98}}
	return api.Range{Kind: api.RangeOr, L: room[:5]}, room, texts
}

// R4: ranges that are handed in are left as they were, and what lies behind their lists' lengths is neither read nor written.
func TestRangesAreLeftAsTheyWere(t *testing.T) {
	r, room, texts := roomyRange()
	was, textsWere := copiedRange(api.Range{L: room}), slices.Clone(texts)
	own := copiedRange(r)
	if !likeSet(Of(r), Of(own)) || !like(Simple(r), Simple(own)) || Empty(r) || !Has(r, version("6.0.0")) || Has(r, version("4.0.0")) {
		t.Error("an answer hangs on what lies behind a length")
	}
	if rangeexpr.Text(Simple(r)) != "<0.0.0-rc.1 || =1.0.0-rc.1 || >=2.0.0-rc.1, <3.0.0-0 || >3.0.0-rc.1, <3.1.0-0 || >=5.0.0-rc.1, !=6.0.0-rc.1, !=7.0.0-rc.1" {
		t.Errorf("Simple = %s", rangeexpr.Text(Simple(r)))
	}
	if !like(api.Range{L: room}, was) || !slices.Equal(texts, textsWere) {
		t.Errorf("what was handed in is changed: %v, %q", room, texts)
	}
}

// R4: sets that are handed in are so, normal ones and others.
func TestSetsAreLeftAsTheyWere(t *testing.T) {
	texts := []string{"rc", "1", "b", "z"}
	cut := func(kind int, major uint64) api.Cut {
		return api.Cut{Kind: kind, V: api.Version{Major: major, Pre: texts[:2], Build: texts[2:2]}}
	}
	room := spans(from(cut(api.CutAhead, 1), cut(api.CutAhead, 2)), from(cut(api.CutBehind, 2), cut(api.CutBehind, 3)), from(cut(api.CutAhead, 4), cut(api.CutBehind, 4)), from(low(), high()), from(low(), cut(api.CutAhead, 1)))
	was, textsWere := copiedSet(room), slices.Clone(texts)
	for n, want := range []string{"!*", ">=1.0.0-rc.1, <2.0.0-rc.1", ">=1.0.0-rc.1, <=3.0.0-rc.1, !=2.0.0-rc.1", ">=1.0.0-rc.1, <=3.0.0-rc.1, !=2.0.0-rc.1 || =4.0.0-rc.1", "*"} {
		if got := rangeexpr.Text(Plain(room[:n])); got != want {
			t.Errorf("Plain of %d spans = %s, want %s", n, got, want)
		}
	}
	if got := rangeexpr.Text(Plain(room[4:])); got != "<1.0.0-rc.1" {
		t.Errorf("Plain = %s", got)
	}
	if !likeSet(room, was) || !slices.Equal(texts, textsWere) {
		t.Errorf("what was handed in is changed: %v, %q", room, texts)
	}
}

// growRange writes over each identifier of a range, and adds an element to every list of it.
func growRange(r *api.Range) {
	for i := range r.L {
		growRange(&r.L[i])
	}
	growVersion(&r.V)
	r.L = append(r.L, not(all()))
}

func growVersion(v *api.Version) {
	for _, l := range []*[]string{&v.Pre, &v.Build} {
		for i := range *l {
			(*l)[i] += " written over"
		}
		*l = append(*l, "grown", "grown")
	}
}

func growSet(l []api.Span) []api.Span {
	for i := range l {
		growVersion(&l[i].Lo.V)
		growVersion(&l[i].Hi.V)
	}
	return append(l, from(high(), low()))
}

// R4: what is answered is new, and no two lists of it share memory: written over and grown, it changes nothing else.
func TestAnswersAreNewMemory(t *testing.T) {
	r, room, texts := roomyRange()
	was, textsWere := copiedRange(api.Range{L: room}), slices.Clone(texts)
	normal := Of(r)
	normalWas := copiedSet(normal)
	ranges := []func() api.Range{func() api.Range { return Simple(r) }, func() api.Range { return Plain(normal) }, func() api.Range { return Plain(normal[:1]) }, func() api.Range { return Plain(nil) }, func() api.Range { return Plain(append(slices.Clone(normal), normal...)) }}
	for _, one := range room[:5] {
		ranges = append(ranges, func() api.Range { return Simple(one) }, func() api.Range { return Simple(not(one)) })
	}
	for i, answer := range ranges {
		got, fresh := answer(), copiedRange(answer())
		want := copiedRange(fresh)
		growRange(&want)
		growRange(&got)
		if !like(got, want) {
			t.Errorf("range %d: lists of one answer share memory: %v, want %v", i, got, want)
		}
		if again := answer(); !like(again, fresh) {
			t.Errorf("range %d is another one later: %v, want %v", i, again, fresh)
		}
	}
	for i, one := range append([]api.Range{r, not(r), and(r, r), or(r, r), all()}, room[:5]...) {
		got, fresh := Of(one), copiedSet(Of(one))
		want := growSet(copiedSet(fresh))
		if got = growSet(got); !likeSet(got, want) {
			t.Errorf("set %d: lists of one answer share memory: %v, want %v", i, got, want)
		}
		if again := Of(one); !likeSet(again, fresh) {
			t.Errorf("set %d is another one later: %v, want %v", i, again, fresh)
		}
	}
	if !like(api.Range{L: room}, was) || !slices.Equal(texts, textsWere) || !likeSet(normal, normalWas) {
		t.Errorf("an answer shares memory with what was handed in: %v, %q, %v", room, texts, normal)
	}
}

// The chapter's example.
func TestExample(t *testing.T) {
	l := Of(expr("^1.2.0, !=1.3.0"))
	if p := span.Points(l); len(l) != 2 || len(p) != 1 || rangeexpr.Text(Plain(l)) != ">=1.2.0, <2.0.0-0, !=1.3.0" {
		t.Errorf("^1.2.0, !=1.3.0: %v", l)
	}
}

// grown is a range that bytes tell, of kinds that are some and others, with right versions and wrong ones.
func grown(b []byte) api.Range {
	stack := []api.Range{all()}
	pop := func() api.Range {
		r := stack[len(stack)-1]
		if len(stack) > 1 {
			stack = stack[:len(stack)-1]
		}
		return r
	}
	versions := asked()
	for i, c := range b {
		n := int(c) / 16
		switch kind := int(c) % 16; kind {
		case api.RangeAnd, api.RangeOr, api.RangeNot:
			r := api.Range{Kind: kind}
			for range n % 4 {
				r.L = append(r.L, pop())
			}
			stack = append(stack, r)
		case 12:
			stack = append(stack, and(not(pop()), or(pop(), pop())))
		case 13:
			stack = append(stack, not(pop()))
		case 14:
			stack = append(stack, and(pop(), pop()))
		case 15:
			stack = append(stack, or(pop(), pop()))
		case 0:
			if c == 0xf0 {
				stack = append(stack, api.Range{Kind: 1 + i%9, V: wrongVersions()[i%len(wrongVersions())]})
			} else {
				stack = append(stack, all())
			}
		default:
			stack = append(stack, api.Range{Kind: kind, V: versions[(7*n+i)%len(versions)]})
		}
	}
	return pop()
}

// size is how many ranges a range has in it, itself too.
func size(r api.Range) int {
	n := 1
	for _, one := range r.L {
		n += size(one)
	}
	return n
}

// P1, P7.1 to P7.3: whatever ranges there are.
func FuzzRanges(f *testing.F) {
	f.Add([]byte{1, 2, 14, 13, 5, 15})
	f.Add([]byte{0x15, 0x26, 14, 0x37, 15, 0x48, 12, 13})
	f.Add([]byte{0xf0, 13, 1, 15})
	f.Add(slices.Repeat([]byte{13}, 65))
	f.Fuzz(func(t *testing.T, b []byte) {
		if len(b) > 200 {
			return
		}
		r := grown(b)
		if size(r) > 2000 {
			return
		}
		if !rangeexpr.Good(r) {
			checkWrong(t, r)
			return
		}
		l, plain := Of(r), Simple(r)
		if !span.Good(l) || Empty(r) != (len(l) == 0) || !like(plain, Plain(l)) || !rangeexpr.Good(plain) || !likeSet(Of(plain), l) || !like(Simple(plain), plain) {
			t.Fatalf("Of(%s) = %v, Simple = %s", rangeexpr.Text(r), l, rangeexpr.Text(plain))
		}
		for _, v := range asked() {
			if Has(r, v) != says(r, v) || Has(plain, v) != says(r, v) {
				t.Fatalf("Has(%s, %s) isn't %v", rangeexpr.Text(r), semver.Text(v), says(r, v))
			}
		}
		for _, v := range wrongVersions() {
			if Has(r, v) {
				t.Fatalf("Has(%s, %.80v)", rangeexpr.Text(r), v)
			}
		}
	})
}

// P1, P7.2 and P7.3: whatever spans there are, of right cuts and wrong ones.
func FuzzPlain(f *testing.F) {
	f.Add([]byte{1, 4, 3, 9, 12, 13})
	f.Add([]byte{0, 3, 4, 53, 20, 21, 60, 5})
	f.Fuzz(func(t *testing.T, b []byte) {
		s := scale(rising())
		right := s.cuts()
		cuts := append(slices.Clone(right), wrongCuts()...)
		var l []api.Span
		g := gaps(0)
		for ; len(b) >= 2; b = b[2:] {
			lo, hi := int(b[0])%len(cuts), int(b[1])%len(cuts)
			l = append(l, from(cuts[lo], cuts[hi]))
			if lo < len(right) && hi < len(right) {
				g |= upTo(hi) &^ upTo(lo)
			}
		}
		got, want := Plain(l), s.plain(g)
		if rangeexpr.Text(got) != want || !like(got, expr(want)) || !likeSet(Of(got), s.set(g)) || !like(Simple(got), got) {
			t.Fatalf("Plain(%v) = %s, want %s", l, rangeexpr.Text(got), want)
		}
	})
}
