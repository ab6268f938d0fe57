package rangeexpr

import (
	"math"
	"runtime/debug"
	"slices"
	"strings"
	"testing"

	"ferrule/api"
	"ferrule/semver"
)

// answer is what Parse and Read answer.
type answer struct {
	r  api.Range
	at int
	e  api.Errno
}

func parse(b []byte, at int) answer {
	r, end, e := Parse(b, at)
	return answer{r, end, e}
}

func read(s string) answer {
	r, at, e := Read(s)
	return answer{r, at, e}
}

func refused(at int, e api.Errno) answer { return answer{at: at, e: e} }

func version(s string) api.Version {
	v, _, e := semver.Read(s)
	if e != api.OK {
		panic(s + " isn't a version")
	}
	return v
}

func of(kind int, s string) api.Range { return api.Range{Kind: kind, V: version(s)} }
func is(s string) api.Range           { return of(api.RangeEq, s) }
func all() api.Range                  { return api.Range{} }
func and(l ...api.Range) api.Range    { return api.Range{Kind: api.RangeAnd, L: l} }
func or(l ...api.Range) api.Range     { return api.Range{Kind: api.RangeOr, L: l} }
func not(l ...api.Range) api.Range    { return api.Range{Kind: api.RangeNot, L: l} }

func likeVersion(a, b api.Version) bool {
	return a.Major == b.Major && a.Minor == b.Minor && a.Patch == b.Patch && slices.Equal(a.Pre, b.Pre) && slices.Equal(a.Build, b.Build)
}

// like compares field by field, so that Same is tested by it, and not the other way round.
func like(a, b api.Range) bool {
	return a.Kind == b.Kind && likeVersion(a.V, b.V) && slices.EqualFunc(a.L, b.L, like)
}

func (a answer) like(o answer) bool { return like(a.r, o.r) && a.at == o.at && a.e == o.e }

// deepCopy is a range in memory of its own.
func deepCopy(r api.Range) api.Range {
	r.V.Pre, r.V.Build = append([]string(nil), r.V.Pre...), append([]string(nil), r.V.Build...)
	var l []api.Range
	for _, one := range r.L {
		l = append(l, deepCopy(one))
	}
	r.L = l
	return r
}

// nested is a range within n others.
func nested(r api.Range, n int, outer func(api.Range) api.Range) api.Range {
	for range n {
		r = outer(r)
	}
	return r
}

// opOf is each op's text, and its kind.
func opOf() map[string]int {
	return map[string]int{">=": api.RangeGe, ">": api.RangeGt, "<=": api.RangeLe, "<": api.RangeLt, "=": api.RangeEq, "!=": api.RangeNe, "^": api.RangeCaret, "~": api.RangeTilde}
}

// A second way of reading, which has no function that calls itself: what is open stands on a stack, and the bytes are gone through once, with one question: is a one to come, or is there one?

// frame is an open bracket (or the whole expression) with what is in it so far; or an open sign of not.
type frame struct {
	sign  bool
	every []api.Range
	ones  []api.Range
}

func joined(kind int, l []api.Range) api.Range {
	if len(l) == 1 {
		return l[0]
	}
	return api.Range{Kind: kind, L: l}
}

func (f *frame) endEvery() {
	f.every = append(f.every, joined(api.RangeAnd, f.ones))
	f.ones = nil
}

// machine is the second way's reader; deepest is how deep the deepest one stands.
type machine struct {
	b       string
	at      int
	stack   []frame
	limit   int
	deepest int
}

func (m *machine) blanks() { m.at = len(m.b) - len(strings.TrimLeft(m.b[m.at:], " \t")) }

func (m *machine) rest() string { return m.b[m.at:] }

func (m *machine) begins(some string) bool {
	return m.rest() != "" && strings.Contains(some, m.rest()[:1])
}

func (m *machine) fault() api.Errno {
	if m.rest() == "" {
		return api.ErrEmpty
	}
	return api.ErrForm
}

// take reads what begins a one: an opening (open), or a whole one.
func (m *machine) take() (r api.Range, open bool, e api.Errno) {
	m.blanks()
	m.deepest = max(m.deepest, len(m.stack)-1)
	kind, long := api.RangeEq, 0
	for op, k := range opOf() {
		if strings.HasPrefix(m.rest(), op) && len(op) > long {
			kind, long = k, len(op)
		}
	}
	if long == 0 && m.begins("(!") {
		if len(m.stack) > m.limit {
			return r, false, api.ErrDeep
		}
		m.stack = append(m.stack, frame{sign: m.begins("!")})
		m.at++
		return r, true, api.OK
	}
	if m.begins("*") {
		m.at++
		return api.Range{Kind: api.RangeAll}, false, api.OK
	}
	m.at += long
	m.blanks()
	if !m.begins("0123456789") {
		return r, false, m.fault()
	}
	v, end, e := semver.Parse([]byte(m.b), m.at)
	m.at = end
	return api.Range{Kind: kind, V: v}, false, e
}

// give hands a one to what is open around it, and passes what stands behind it: more tells whether a one is to come then.
func (m *machine) give(r api.Range) (whole api.Range, more bool, e api.Errno) {
	for {
		for m.stack[len(m.stack)-1].sign {
			r = not(r)
			m.stack = m.stack[:len(m.stack)-1]
		}
		top := &m.stack[len(m.stack)-1]
		top.ones = append(top.ones, r)
		m.blanks()
		switch {
		case m.begins(","):
			m.at++
			return r, true, api.OK
		case m.begins("(!*><=^~0123456789"):
			return r, true, api.OK
		case strings.HasPrefix(m.rest(), "||"):
			m.at += 2
			top.endEvery()
			return r, true, api.OK
		}
		top.endEvery()
		r = joined(api.RangeOr, top.every)
		m.stack = m.stack[:len(m.stack)-1]
		if len(m.stack) == 0 {
			return r, false, api.OK
		}
		if !m.begins(")") {
			return r, false, m.fault()
		}
		m.at++
	}
}

// run reads an expression, with no one deeper than a limit.
func (m *machine) run() answer {
	m.stack = []frame{{}}
	for {
		r, open, e := m.take()
		if e != api.OK {
			return refused(m.at, e)
		}
		if open {
			continue
		}
		whole, more, e := m.give(r)
		if e != api.OK {
			return refused(m.at, e)
		}
		if !more {
			return answer{whole, m.at, api.OK}
		}
	}
}

// wantedParse is what Parse is to answer, by the second way.
func wantedParse(b []byte, at int) answer {
	if at < 0 || at > len(b) {
		return refused(0, api.ErrArg)
	}
	m := machine{b: string(b), at: at, limit: 64}
	return m.run()
}

// wantedRead is what Read is to answer, by the second way.
func wantedRead(s string) answer {
	w := wantedParse([]byte(s), 0)
	if w.e != api.OK {
		return w
	}
	if w.at < len(s) {
		return refused(w.at, api.ErrLine)
	}
	w.at = 0
	return w
}

// wantedText is what Text is to answer, by the second way: as the promise says it, from within to without.
func wantedText(r api.Range) string {
	if r.Kind == api.RangeAll {
		return "*"
	}
	if r.Kind == api.RangeOr || r.Kind == api.RangeAnd {
		var l []string
		for _, one := range r.L {
			s := wantedText(one)
			if one.Kind == api.RangeOr || one.Kind == api.RangeAnd && r.Kind == api.RangeAnd {
				s = "(" + s + ")"
			}
			l = append(l, s)
		}
		return strings.Join(l, map[int]string{api.RangeOr: " || ", api.RangeAnd: ", "}[r.Kind])
	}
	if r.Kind == api.RangeNot {
		if len(r.L) == 0 {
			return "!"
		}
		s := wantedText(r.L[0])
		switch r.L[0].Kind {
		case api.RangeEq:
			return "! " + s
		case api.RangeAnd, api.RangeOr:
			return "!(" + s + ")"
		}
		return "!" + s
	}
	for op, kind := range opOf() {
		if r.Kind == kind {
			return op + semver.Text(r.V)
		}
	}
	return semver.Text(r.V)
}

// wantedGood is what Good is to answer, by the second way: what stands in its fields, and how deep its text is.
func wantedGood(r api.Range) bool {
	if !wantedFields(r) {
		return false
	}
	m := machine{b: wantedText(r), limit: math.MaxInt}
	return m.run().e == api.OK && m.deepest <= 64
}

func wantedFields(r api.Range) bool {
	counts := 1 <= r.Kind && r.Kind <= 8
	if counts && !semver.Good(r.V) || !counts && !likeVersion(r.V, api.Version{}) {
		return false
	}
	few, many := 0, 0
	switch r.Kind {
	case 9, 10:
		few, many = 2, math.MaxInt
	case 11:
		few, many = 1, 1
	}
	if r.Kind < 0 || r.Kind > 11 || len(r.L) < few || len(r.L) > many {
		return false
	}
	return !slices.ContainsFunc(r.L, func(one api.Range) bool { return !wantedFields(one) })
}

// rightVersions are texts of versions at the edges of what is right.
func rightVersions() []string {
	long := strings.Repeat("x", api.MaxIdent)
	return []string{
		"0.0.0", "1.0.0", "1.2.3", "10.20.30", "9223372036854775807.9223372036854775807.9223372036854775807", "1.0.0-0", "1.0.0-rc.1", "1.0.0+b", "1.0.0+00.1", "1.0.0-rc.1+b.2", "1.0.0--", "1.0.0+-", "1.0.0-" + long, "1.0.0-a+" + long,
		"1.0.0-" + strings.Repeat("a.", api.MaxParts-1) + "a", "1.0.0+" + strings.Repeat("0.", api.MaxParts-1) + "0",
	}
}

// wrongVersions are versions that aren't right.
func wrongVersions() []api.Version {
	return []api.Version{
		{Major: 1 << 63}, {Minor: math.MaxUint64}, {Patch: 1 << 63}, {Pre: []string{""}}, {Pre: []string{"01"}}, {Build: []string{""}}, {Build: []string{"b", "_"}}, {Pre: []string{"a.b"}}, {Pre: []string{"a b"}},
		{Pre: slices.Repeat([]string{"a"}, api.MaxParts+1)}, {Build: slices.Repeat([]string{"a"}, api.MaxParts+1)}, {Pre: []string{strings.Repeat("a", api.MaxIdent+1)}}, {Major: 1, Pre: []string{"\xff"}},
	}
}

// wrongKinds are kinds that are none, some of which would be one if fewer bits counted.
func wrongKinds() []int {
	return []int{-1, -2, 12, 13, 100, 256, 257, 1 << 32, 1<<32 + 1, 1<<32 + 11, math.MinInt, math.MaxInt}
}

// small are right ranges of every kind, few enough to be put into one another.
func small() []api.Range {
	l := []api.Range{all()}
	for kind := api.RangeGe; kind <= api.RangeTilde; kind++ {
		l = append(l, of(kind, "1.0.0-rc.1+b"))
	}
	return append(l, and(is("1.0.0"), all()), or(is("1.0.0"), is("2.0.0"), all()), not(is("1.0.0")), not(all()), not(of(api.RangeNe, "1.0.0")))
}

// mixed are ranges of the kinds And, Or and Not whose ones are of every kind.
func mixed() []api.Range {
	var l []api.Range
	for _, a := range small() {
		l = append(l, not(a), not(not(a)))
		for _, b := range small() {
			l = append(l, and(a, b), or(a, b), and(b, a, b), or(b, b, a), not(and(a, b)), not(or(a, b)))
		}
	}
	return l
}

// wrong are ranges that aren't right, each for one reason.
func wrong() []api.Range {
	var l []api.Range
	for _, kind := range wrongKinds() {
		l = append(l, api.Range{Kind: kind}, of(kind, "1.0.0"), api.Range{Kind: kind, L: []api.Range{all()}}, api.Range{Kind: kind, L: []api.Range{all(), all()}})
	}
	for kind := api.RangeGe; kind <= api.RangeTilde; kind++ {
		for _, v := range wrongVersions() {
			l = append(l, api.Range{Kind: kind, V: v})
		}
		for _, ones := range [][]api.Range{{all()}, {all(), all()}, {is("1.0.0")}} {
			l = append(l, api.Range{Kind: kind, V: version("1.0.0"), L: ones})
		}
	}
	some := []api.Version{version("1.0.0"), version("0.1.0"), version("0.0.1"), version("0.0.0-0"), version("0.0.0+b"), {Pre: []string{""}}, {Build: []string{""}}, {Major: 1 << 63}}
	for _, v := range some {
		l = append(l, api.Range{V: v}, api.Range{Kind: api.RangeAnd, V: v, L: []api.Range{all(), all()}}, api.Range{Kind: api.RangeOr, V: v, L: []api.Range{all(), all()}}, api.Range{Kind: api.RangeNot, V: v, L: []api.Range{all()}})
	}
	one := is("1.0.0")
	return append(l, api.Range{L: []api.Range{one}}, api.Range{L: []api.Range{one, one}}, and(), or(), not(), and(one), or(one), not(one, one), not(one, one, one), and(and(one, one)), or(or(one, one)))
}

// P6.1: each op, and a version without one, with and without blanks of both sorts.
func TestParseOps(t *testing.T) {
	ops := opOf()
	ops[""] = api.RangeEq
	for op, kind := range ops {
		for _, v := range rightVersions() {
			for _, blank := range []string{"", " ", "\t", " \t\t  "} {
				s := blank + op + blank + v + blank
				if got, want := parse([]byte(s), 0), (answer{of(kind, v), len(s), api.OK}); !got.like(want) {
					t.Errorf("Parse(%.60q) = %.200v, want %.200v", s, got, want)
				}
				if got, want := read(s), (answer{of(kind, v), 0, api.OK}); !got.like(want) {
					t.Errorf("Read(%.60q) = %.200v, want %.200v", s, got, want)
				}
			}
		}
	}
}

// P6.1 and P6.2: ranges of expressions, by hand.
func TestReadSomeExpressions(t *testing.T) {
	one, two, three := is("1.0.0"), is("2.0.0"), is("3.0.0")
	ne := of(api.RangeNe, "1.0.0")
	for s, want := range map[string]api.Range{
		"*": all(), " \t* \t": all(), "1.0.0": one, "=1.0.0": one, "= 1.0.0": one, "(1.0.0)": one, "((((1.0.0))))": one, "( ( 1.0.0 ) )": one,
		"^1.2.3 || >=2.0.0, !=2.1.0": or(of(api.RangeCaret, "1.2.3"), and(of(api.RangeGe, "2.0.0"), of(api.RangeNe, "2.1.0"))),
		"1.0.0 2.0.0":                and(one, two), "1.0.0,2.0.0": and(one, two), "1.0.0 ,\t2.0.0": and(one, two), "1.0.0, 2.0.0 3.0.0": and(one, two, three), "1.0.0 2.0.0,3.0.0": and(one, two, three),
		"1.0.0||2.0.0": or(one, two), "1.0.0 || 2.0.0\t||\t3.0.0": or(one, two, three), "1.0.0 2.0.0||3.0.0": or(and(one, two), three), "1.0.0||2.0.0 3.0.0": or(one, and(two, three)),
		"(1.0.0||2.0.0)3.0.0": and(or(one, two), three), "3.0.0(1.0.0||2.0.0)": and(three, or(one, two)), "3.0.0,(1.0.0||2.0.0)": and(three, or(one, two)),
		"(1.0.0 2.0.0) 3.0.0": and(and(one, two), three), "1.0.0 (2.0.0 3.0.0)": and(one, and(two, three)), "(1.0.0||2.0.0)||3.0.0": or(or(one, two), three), "1.0.0||(2.0.0||3.0.0)": or(one, or(two, three)), "(1.0.0 2.0.0)||3.0.0": or(and(one, two), three),
		"(1.0.0||2.0.0)": or(one, two), "((1.0.0 2.0.0))": and(one, two), "(1.0.0)(2.0.0)": and(one, two), "(1.0.0)||(2.0.0)": or(one, two),
		"!1.0.0": not(one), "! 1.0.0": not(one), "! =1.0.0": not(one), "!\t=1.0.0": not(one), "!(=1.0.0)": not(one), "!=1.0.0": ne, "!= 1.0.0": ne, "!!=1.0.0": not(ne), "! !=1.0.0": not(ne), "!! =1.0.0": not(not(one)), "!!1.0.0": not(not(one)), "!!!=1.0.0": not(not(ne)),
		"!*": not(all()), "!!*": not(not(all())), "!>=1.0.0": not(of(api.RangeGe, "1.0.0")), "!^1.0.0": not(of(api.RangeCaret, "1.0.0")), "!(1.0.0 || 2.0.0)": not(or(one, two)), "!(1.0.0 2.0.0)": not(and(one, two)), "!(!(1.0.0))": not(not(one)),
		"!1.0.0 2.0.0": and(not(one), two), "!1.0.0||2.0.0": or(not(one), two), "2.0.0!1.0.0": and(two, not(one)), "2.0.0!=1.0.0": and(two, ne), "2.0.0,!=1.0.0": and(two, ne), "2.0.0,! =1.0.0": and(two, not(one)), "2.0.0! =1.0.0": and(two, not(one)), "!2.0.0!1.0.0": and(not(two), not(one)),
		"**": and(all(), all()), "* *||*": or(and(all(), all()), all()), "*,*": and(all(), all()), "*1.0.0": and(all(), one), "1.0.0*": and(one, all()), "1.0.0-a*": and(is("1.0.0-a"), all()), "*(*)": and(all(), all()), "*!*": and(all(), not(all())),
		">1.0.0<2.0.0": and(of(api.RangeGt, "1.0.0"), of(api.RangeLt, "2.0.0")), ">=1.0.0<=2.0.0": and(of(api.RangeGe, "1.0.0"), of(api.RangeLe, "2.0.0")), "1.0.0=2.0.0": and(one, two), "1.0.0^2.0.0": and(one, of(api.RangeCaret, "2.0.0")), "1.0.0~2.0.0": and(one, of(api.RangeTilde, "2.0.0")),
		"1.0.0-rc.1+b <=2.0.0": and(is("1.0.0-rc.1+b"), of(api.RangeLe, "2.0.0")), "1.0.0+b||2.0.0": or(is("1.0.0+b"), two), "1.0.0-a,2.0.0": and(is("1.0.0-a"), two), "(1.0.0-a.b)": is("1.0.0-a.b"), "(1.0.0+0)": is("1.0.0+0"), "1.0.0-2.0.0": is("1.0.0-2.0.0"),
	} {
		if got := read(s); !got.like(answer{want, 0, api.OK}) {
			t.Errorf("Read(%q) = %v, want %v", s, got, want)
		}
		if got := parse([]byte(s), 0); !got.like(answer{want, len(s), api.OK}) {
			t.Errorf("Parse(%q) = %v, want %v", s, got, want)
		}
	}
}

// P6.1: an expression stops at a byte that isn't its own; blanks ahead of that byte belong to it, and Read tells its place.
func TestExpressionsStop(t *testing.T) {
	one := is("1.0.0")
	for _, c := range []struct {
		s   string
		r   api.Range
		end int
	}{
		{"1.0.0)", one, 5}, {"1.0.0 )", one, 6}, {"1.0.0 \t\t)", one, 8}, {"(1.0.0))", one, 7}, {"(1.0.0) )", one, 8}, {"1.0.0 |", one, 6}, {"1.0.0|", one, 5}, {"1.0.0 | |2.0.0", one, 6}, {"1.0.0|=2.0.0", one, 5}, {"1.0.0 x", one, 6}, {"1.0.0x", one, 5}, {"1.0.0 v2.0.0", one, 6}, {"1.0.0.", one, 5}, {"1.0.0.0", one, 5},
		{"1.0.0\n", one, 5}, {"1.0.0 \n 2.0.0", one, 6}, {"1.0.0\r", one, 5}, {"1.0.0\x00", one, 5}, {"1.0.0\xff", one, 5}, {"1.0.0\x0b2.0.0", one, 5}, {"1.0.0\u00a02.0.0", one, 5}, {"1.0.0&&2.0.0", one, 5}, {"1.0.0;", one, 5}, {"1.0.0 -a", one, 6}, {"1.0.0 +b", one, 6}, {"1.0.0 .", one, 6}, {"1.0.0]", one, 5}, {"1.0.0/", one, 5}, {"1.0.0:", one, 5}, {"1.0.0a", one, 5},
		{"1.0.0-a b", is("1.0.0-a"), 8}, {"1.0.0-a_", is("1.0.0-a"), 7}, {"1.0.0-a+b+c", is("1.0.0-a+b"), 9}, {"1.0.0+b-c)", is("1.0.0+b-c"), 9}, {"1.0.0+b+c", is("1.0.0+b"), 7}, {"*)", all(), 1}, {"* x", all(), 2}, {"*|", all(), 1}, {"*.", all(), 1}, {"!*)", not(all()), 2}, {"!1.0.0 )", not(one), 7},
		{"1.0.0||2.0.0|3.0.0", or(one, is("2.0.0")), 12}, {"1.0.0, 2.0.0 )", and(one, is("2.0.0")), 13},
	} {
		if got := parse([]byte(c.s), 0); !got.like(answer{c.r, c.end, api.OK}) {
			t.Errorf("Parse(%q) = %v, want %v and %d", c.s, got, c.r, c.end)
		}
		if got := read(c.s); !got.like(refused(c.end, api.ErrLine)) {
			t.Errorf("Read(%q) = %v, want ErrLine at %d", c.s, got, c.end)
		}
	}
}

// P6.1 and P6.2: wrong expressions, the error, and its place; of Parse and Read alike.
func TestWrongExpressions(t *testing.T) {
	for _, c := range []struct {
		s  string
		at int
		e  api.Errno
	}{
		{"", 0, api.ErrEmpty}, {" ", 1, api.ErrEmpty}, {" \t ", 3, api.ErrEmpty}, {"(", 1, api.ErrEmpty}, {"( ", 2, api.ErrEmpty}, {"((", 2, api.ErrEmpty}, {"!", 1, api.ErrEmpty}, {"! ", 2, api.ErrEmpty}, {"!!", 2, api.ErrEmpty}, {"!(", 2, api.ErrEmpty}, {"(1.0.0", 6, api.ErrEmpty}, {"(1.0.0 \t", 8, api.ErrEmpty}, {"(*", 2, api.ErrEmpty}, {"((1.0.0)", 8, api.ErrEmpty}, {"!(1.0.0", 7, api.ErrEmpty}, {"(1.0.0||", 8, api.ErrEmpty}, {"1.0.0,", 6, api.ErrEmpty}, {"1.0.0 , ", 8, api.ErrEmpty}, {"1.0.0||", 7, api.ErrEmpty}, {"1.0.0 || ", 9, api.ErrEmpty}, {"1.0.0(", 6, api.ErrEmpty}, {"1.0.0!", 6, api.ErrEmpty}, {"1.0.0>", 6, api.ErrEmpty}, {"1.0.0 !=", 8, api.ErrEmpty},
		{">=", 2, api.ErrEmpty}, {">", 1, api.ErrEmpty}, {"<=", 2, api.ErrEmpty}, {"<", 1, api.ErrEmpty}, {"=", 1, api.ErrEmpty}, {"!=", 2, api.ErrEmpty}, {"^", 1, api.ErrEmpty}, {"~", 1, api.ErrEmpty}, {"~ \t", 3, api.ErrEmpty}, {"! =", 3, api.ErrEmpty},
		{"|| 1.0.0", 0, api.ErrForm}, {"|", 0, api.ErrForm}, {",1.0.0", 0, api.ErrForm}, {" ,", 1, api.ErrForm}, {")", 0, api.ErrForm}, {"()", 1, api.ErrForm}, {"( )", 2, api.ErrForm}, {"x", 0, api.ErrForm}, {"v1.0.0", 0, api.ErrForm}, {"\n1.0.0", 0, api.ErrForm}, {"-1.0.0", 0, api.ErrForm}, {"+1.0.0", 0, api.ErrForm}, {".0.0", 0, api.ErrForm}, {"/1.0.0", 0, api.ErrForm}, {":1.0.0", 0, api.ErrForm}, {"\x00", 0, api.ErrForm}, {"\xff", 0, api.ErrForm}, {"\u0661.0.0", 0, api.ErrForm},
		{"1.0.0,,2.0.0", 6, api.ErrForm}, {"1.0.0, ,2.0.0", 7, api.ErrForm}, {"1.0.0,||2.0.0", 6, api.ErrForm}, {"1.0.0||,2.0.0", 7, api.ErrForm}, {"1.0.0||||2.0.0", 7, api.ErrForm}, {"1.0.0|||2.0.0", 7, api.ErrForm}, {"1.0.0||)", 7, api.ErrForm}, {"1.0.0,)", 6, api.ErrForm}, {"(1.0.0,)", 7, api.ErrForm}, {"(1.0.0||)", 8, api.ErrForm}, {"1.0.0,x", 6, api.ErrForm}, {"1.0.0 || x", 9, api.ErrForm},
		{"(1.0.0|2.0.0)", 6, api.ErrForm}, {"(1.0.0 x)", 7, api.ErrForm}, {"(1.0.0x)", 6, api.ErrForm}, {"(1.0.0]", 6, api.ErrForm}, {"((1.0.0) x", 9, api.ErrForm}, {"(1.0.0 |", 7, api.ErrForm}, {"(*.", 2, api.ErrForm}, {"(1.0.0\n)", 6, api.ErrForm},
		{">> 1.0.0", 1, api.ErrForm}, {"> =1.0.0", 2, api.ErrForm}, {"< =1.0.0", 2, api.ErrForm}, {">=<1.0.0", 2, api.ErrForm}, {"==1.0.0", 1, api.ErrForm}, {"=>1.0.0", 1, api.ErrForm}, {"=!1.0.0", 1, api.ErrForm}, {"!==1.0.0", 2, api.ErrForm}, {"! ==1.0.0", 3, api.ErrForm}, {"^ *", 2, api.ErrForm}, {"~(1.0.0)", 1, api.ErrForm}, {">!1.0.0", 1, api.ErrForm}, {"=x", 1, api.ErrForm}, {"^,", 1, api.ErrForm}, {"!,", 1, api.ErrForm}, {"!)", 1, api.ErrForm}, {"!||", 1, api.ErrForm}, {"! x", 2, api.ErrForm}, {"^^1.0.0", 1, api.ErrForm}, {"~>1.0.0", 1, api.ErrForm}, {"!=*", 2, api.ErrForm}, {"!=(1.0.0)", 2, api.ErrForm}, {">=v1.0.0", 2, api.ErrForm},
		{"!\n1.0.0", 1, api.ErrForm}, {">\n1.0.0", 1, api.ErrForm}, {"1.0.0,\n2.0.0", 6, api.ErrForm},
	} {
		for name, got := range map[string]answer{"Parse": parse([]byte(c.s), 0), "Read": read(c.s)} {
			if !got.like(refused(c.at, c.e)) {
				t.Errorf("%s(%q) = %v, want %d at %d", name, c.s, got, c.e, c.at)
			}
		}
	}
}

// P6.1: of a version that begins with a digit chapter 3's errors, at its places, wherever the version stands.
func TestWrongVersionsInExpressions(t *testing.T) {
	long := strings.Repeat("x", api.MaxIdent+1)
	for _, c := range []struct {
		s  string
		at int
		e  api.Errno
	}{
		{"1.", 2, api.ErrShort}, {"1", 1, api.ErrShort}, {"1.0", 3, api.ErrShort}, {"1.0.", 4, api.ErrShort},
		{"1.x.0", 2, api.ErrShort}, {"1.*", 2, api.ErrShort}, {"1..0", 2, api.ErrShort}, {"1.0. 0", 4, api.ErrShort}, {"1.0.-a", 4, api.ErrShort},
		{"1 .0.0", 1, api.ErrForm}, {"1,0,0", 1, api.ErrForm}, {"1.0 ", 3, api.ErrForm}, {"1.0-a", 3, api.ErrForm}, {"1.0)", 3, api.ErrForm}, {"1.0||1.0.0", 3, api.ErrForm}, {"1*", 1, api.ErrForm},
		{"01.0.0", 0, api.ErrForm}, {"1.00.0", 2, api.ErrForm}, {"1.0.01", 4, api.ErrForm}, {"9223372036854775808.0.0", 0, api.ErrLarge}, {"0.0.9223372036854775808", 4, api.ErrLarge},
		{"1.0.0-", 6, api.ErrEmpty}, {"1.0.0- a", 6, api.ErrEmpty}, {"1.0.0-||2.0.0", 6, api.ErrEmpty}, {"1.0.0+", 6, api.ErrEmpty}, {"1.0.0-+b", 6, api.ErrEmpty}, {"1.0.0-a+", 8, api.ErrEmpty}, {"1.0.0-a.", 6, api.ErrEmpty}, {"1.0.0-a..b", 6, api.ErrEmpty}, {"1.0.0+b.)", 6, api.ErrEmpty},
		{"1.0.0-01", 6, api.ErrForm}, {"1.0.0-a.00", 6, api.ErrForm}, {"1.0.0-" + long, 6, api.ErrLarge}, {"1.0.0+" + long, 6, api.ErrLarge}, {"1.0.0-a+" + strings.Repeat("0.", api.MaxParts) + "0", 8, api.ErrLarge},
	} {
		for _, ahead := range []string{"", " \t", ">=", ">", "<=", "<", "=", "!=", "^ ", "~\t", "!", "! =", "(", "( (!(", "*", "1.0.0||", "1.0.0, ", "1.0.0-a ^", "(1.0.0)"} {
			s, at := ahead+c.s, len(ahead)+c.at
			if got := parse([]byte(s), 0); !got.like(refused(at, c.e)) {
				t.Errorf("Parse(%.80q) = %v, want %d at %d", s, got, c.e, at)
			}
			if got := read(s); !got.like(refused(at, c.e)) {
				t.Errorf("Read(%.80q) = %v, want %d at %d", s, got, c.e, at)
			}
		}
	}
}

// P6.1: of two faults the one that is met first is told.
func TestTheFirstFaultIsTold(t *testing.T) {
	for s, want := range map[string]answer{
		"01.0.0 || x": refused(0, api.ErrForm), "1.0.0 || 1. || x": refused(11, api.ErrShort), "x 1.0": refused(0, api.ErrForm), "(1.0.0 x 01.0.0": refused(7, api.ErrForm), "(1.0": refused(4, api.ErrShort), "(1.0.0-": refused(7, api.ErrEmpty), "(9223372036854775808.0.0": refused(1, api.ErrLarge),
		strings.Repeat("(", 65) + "x": refused(64, api.ErrDeep), "x" + strings.Repeat("(", 65): refused(0, api.ErrForm), strings.Repeat("(", 64) + "x(": refused(64, api.ErrForm), "1.0 " + strings.Repeat("!", 65): refused(3, api.ErrForm),
	} {
		if got := read(s); !got.like(want) {
			t.Errorf("Read(%q) = %v, want %v", s, got, want)
		}
	}
}

// P6.1: just MaxDeep deep, and one deeper: brackets, signs of not, and both; the place is that of the one that is too much.
func TestHowDeepOnesMayStand(t *testing.T) {
	for _, pattern := range []string{"(", "!", "(!", "!(", "( ", "! ", "((!", "!!("} {
		opens := ""
		for n := 0; n < api.MaxDeep; {
			c := pattern[len(opens)%len(pattern)]
			if c != ' ' {
				n++
			}
			opens += string(c)
		}
		closes := strings.Repeat(")", strings.Count(opens, "("))
		for _, leaf := range []string{"1.0.0", "*", "!=1.0.0", ">= 1.0.0", "1.0.0 || 2.0.0"} {
			s := opens + leaf + closes
			if got := read(s); got.e != api.OK || !got.like(wantedRead(s)) {
				t.Errorf("Read(%q) = %v", s, got)
			}
		}
		for _, more := range []string{"(", "!", "(1.0.0)", "!1.0.0", "! =1.0.0", "!!=1.0.0", "()", "!x", "(x", "! "} {
			for _, blanks := range []string{"", " ", "\t "} {
				s := opens + blanks + more + closes
				if got := parse([]byte(s), 0); !got.like(refused(len(opens+blanks), api.ErrDeep)) {
					t.Errorf("Parse(%q) = %v, want ErrDeep at %d", s, got, len(opens+blanks))
				}
			}
		}
	}
}

// P6.1: what is closed isn't open any more, however many there were.
func TestClosedBracketsDontCount(t *testing.T) {
	deep := strings.Repeat("(", 64) + "1.0.0" + strings.Repeat(")", 64)
	signs := strings.Repeat("!", 64) + "*"
	for _, s := range []string{strings.Repeat(deep, 3), deep + "||" + deep, signs + signs, signs + "," + deep + "||" + signs, strings.Repeat("(*)", 200), strings.Repeat("!*", 200), strings.Repeat("!!=1.0.0", 200)} {
		if got := read(s); got.e != api.OK || !got.like(wantedRead(s)) {
			t.Errorf("Read(%.80q) = %d at %d", s, got.e, got.at)
		}
	}
	if got := parse([]byte(deep+"("+deep+")"), 0); !got.like(refused(len(deep)+64, api.ErrDeep)) {
		t.Errorf("one deeper behind: %v", got)
	}
}

// P6.1: the place at: within the bytes, at their end, below 0 and above it.
func TestParseAtPlaces(t *testing.T) {
	b := []byte(">=1.0.0 || (*) x")
	for at, want := range map[int]answer{
		0: {or(of(api.RangeGe, "1.0.0"), all()), 15, api.OK}, 1: {or(is("1.0.0"), all()), 15, api.OK}, 2: {or(is("1.0.0"), all()), 15, api.OK}, 3: refused(3, api.ErrForm), 4: refused(7, api.ErrForm), 6: refused(7, api.ErrForm), 7: refused(8, api.ErrForm), 8: refused(8, api.ErrForm), 9: refused(9, api.ErrForm),
		10: {all(), 15, api.OK}, 11: {all(), 15, api.OK}, 12: {all(), 13, api.OK}, 13: refused(13, api.ErrForm), 14: refused(15, api.ErrForm), 15: refused(15, api.ErrForm), 16: refused(16, api.ErrEmpty),
		17: refused(0, api.ErrArg), 18: refused(0, api.ErrArg), -1: refused(0, api.ErrArg), math.MinInt: refused(0, api.ErrArg), math.MaxInt: refused(0, api.ErrArg),
	} {
		if got := parse(b, at); !got.like(want) {
			t.Errorf("Parse at %d = %v, want %v", at, got, want)
		}
		// What lies behind the length isn't read, and no place is there.
		longer := append(slices.Clone(b), "1.0.0"...)
		if got := parse(longer[:len(b)], at); !got.like(want) {
			t.Errorf("Parse at %d, with more behind = %v, want %v", at, got, want)
		}
	}
	for _, empty := range [][]byte{nil, {}} {
		if got := parse(empty, 0); !got.like(refused(0, api.ErrEmpty)) {
			t.Errorf("Parse of nothing = %v", got)
		}
		if got := parse(empty, 1); !got.like(refused(0, api.ErrArg)) {
			t.Errorf("Parse of nothing at 1 = %v", got)
		}
	}
}

// sequences hands all texts of at most long tokens to a function.
func sequences(tokens []string, long int, look func(s string)) {
	look("")
	for todo := []string{""}; long > 0; long-- {
		var more []string
		for _, s := range todo {
			for _, token := range tokens {
				look(s + token)
				more = append(more, s+token)
			}
		}
		todo = more
	}
}

// checkRead looks at what is read of a text, by the second way, and at what is told of it.
func checkRead(t *testing.T, s string) {
	t.Helper()
	got := parse([]byte(s), 0)
	if want := wantedParse([]byte(s), 0); !got.like(want) {
		t.Fatalf("Parse(%q) = %v, want %v", s, got, want)
	}
	if got, want := read(s), wantedRead(s); !got.like(want) {
		t.Fatalf("Read(%q) = %v, want %v", s, got, want)
	}
	if got.e == api.OK {
		checkTold(t, got.r)
	}
}

// checkTold looks at what is told of a right range.
func checkTold(t *testing.T, r api.Range) {
	t.Helper()
	s := Text(r)
	if !Good(r) || s != wantedText(r) {
		t.Fatalf("%v: Good is %v, Text is %q, want %q", r, Good(r), s, wantedText(r))
	}
	if again := read(s); !again.like(answer{r, 0, api.OK}) {
		t.Fatalf("Read(%q) = %v, want %v", s, again, r)
	}
}

// P6.1, P6.2 and P6.4: all short texts of some tokens, by the second way.
func TestAllShortExpressions(t *testing.T) {
	sequences([]string{"(", ")", "!", "=", ">", "<", "|", "||", ",", " ", "\t", "*", "^", "~", "1.0.0", "2.0.0-a+b", "1.0", "01.0.0", "x"}, 4, func(s string) { checkRead(t, s) })
	sequences([]string{"(", ")", "!", "=", "|", ",", " ", "1.0.0"}, 6, func(s string) { checkRead(t, s) })
}

// P6.1: each byte, where a one is to come, behind one, behind an op, and in brackets.
func TestEachByte(t *testing.T) {
	for c := range 256 {
		x := string([]byte{byte(c)})
		for _, s := range []string{x, x + "1.0.0", "1.0.0" + x, "1.0.0 " + x + "2.0.0", ">" + x, ">" + x + "1.0.0", "!" + x, "!" + x + "1.0.0", "(" + x, "(1.0.0 " + x, "(1.0.0" + x + ")", "1.0.0," + x + "1.0.0", "1.0.0|" + x + "2.0.0", "* " + x, "*" + x + "*"} {
			checkRead(t, s)
		}
	}
}

// P6.3: Text, by hand.
func TestTextOfSomeRanges(t *testing.T) {
	one, two := is("1.0.0"), is("2.0.0-a+b")
	v := version("1.2.3-rc.1+b")
	for i, c := range []struct {
		r    api.Range
		want string
	}{
		{all(), "*"}, {of(api.RangeGe, "1.0.0"), ">=1.0.0"}, {of(api.RangeGt, "1.0.0"), ">1.0.0"}, {of(api.RangeLe, "1.0.0"), "<=1.0.0"}, {of(api.RangeLt, "1.0.0"), "<1.0.0"}, {one, "=1.0.0"}, {of(api.RangeNe, "1.0.0"), "!=1.0.0"}, {of(api.RangeCaret, "1.0.0"), "^1.0.0"}, {of(api.RangeTilde, "1.2.3-rc.1+b"), "~1.2.3-rc.1+b"},
		{and(one, two), "=1.0.0, =2.0.0-a+b"}, {or(one, two), "=1.0.0 || =2.0.0-a+b"}, {and(one, two, all()), "=1.0.0, =2.0.0-a+b, *"}, {or(one, two, all()), "=1.0.0 || =2.0.0-a+b || *"},
		{or(or(one, two), and(one, two)), "(=1.0.0 || =2.0.0-a+b) || =1.0.0, =2.0.0-a+b"}, {or(and(one, two), or(one, two)), "=1.0.0, =2.0.0-a+b || (=1.0.0 || =2.0.0-a+b)"}, {and(or(one, two), and(one, two)), "(=1.0.0 || =2.0.0-a+b), (=1.0.0, =2.0.0-a+b)"}, {and(not(one), or(one, two)), "! =1.0.0, (=1.0.0 || =2.0.0-a+b)"},
		{not(one), "! =1.0.0"}, {not(of(api.RangeNe, "1.0.0")), "!!=1.0.0"}, {not(not(one)), "!! =1.0.0"}, {not(all()), "!*"}, {not(of(api.RangeGe, "1.0.0")), "!>=1.0.0"}, {not(and(one, two)), "!(=1.0.0, =2.0.0-a+b)"}, {not(or(one, two)), "!(=1.0.0 || =2.0.0-a+b)"}, {not(not(or(one, two))), "!!(=1.0.0 || =2.0.0-a+b)"}, {or(not(one), not(all())), "! =1.0.0 || !*"},
		{not(and(not(or(one, all())), one)), "!(!(=1.0.0 || *), =1.0.0)"},
		{api.Range{Kind: 12, V: v}, "1.2.3-rc.1+b"}, {api.Range{Kind: -1, V: v}, "1.2.3-rc.1+b"}, {api.Range{Kind: math.MinInt}, "0.0.0"}, {api.Range{Kind: math.MaxInt, L: []api.Range{one}}, "0.0.0"}, {not(api.Range{Kind: 12, V: v}), "!1.2.3-rc.1+b"}, {and(api.Range{Kind: 12}, or(api.Range{Kind: -1, V: v}, one)), "0.0.0, (1.2.3-rc.1+b || =1.0.0)"},
		{and(), ""}, {or(), ""}, {not(), "!"}, {and(one), "=1.0.0"}, {or(one), "=1.0.0"}, {and(and(one)), "(=1.0.0)"}, {or(or(one)), "(=1.0.0)"}, {or(and(one)), "=1.0.0"}, {and(or()), "()"}, {not(and()), "!()"}, {not(not()), "!!"}, {not(one, two), "! =1.0.0"}, {not(and(one), two), "!(=1.0.0)"}, {or(and(), and()), " || "},
		{api.Range{V: v, L: []api.Range{one}}, "*"}, {api.Range{Kind: api.RangeGe, V: v, L: []api.Range{one, two}}, ">=1.2.3-rc.1+b"}, {api.Range{Kind: api.RangeAnd, V: v, L: []api.Range{one, two}}, "=1.0.0, =2.0.0-a+b"}, {api.Range{Kind: api.RangeNot, V: v, L: []api.Range{one}}, "! =1.0.0"},
		{api.Range{Kind: api.RangeCaret, V: api.Version{Major: math.MaxUint64, Pre: []string{"", "01"}}}, "^18446744073709551615.0.0-.01"},
	} {
		if got := Text(c.r); got != c.want {
			t.Errorf("%d: Text(%v) = %q, want %q", i, c.r, got, c.want)
		}
	}
}

// P6.3: Text and Good of right ranges and wrong ones, and of these within one another, by the second way.
func TestTextAndGoodOfWhateverRanges(t *testing.T) {
	check := func(r api.Range) {
		t.Helper()
		if got, want := Text(r), wantedText(r); got != want {
			t.Fatalf("Text(%.200v) = %.200q, want %.200q", r, got, want)
		}
		if got, want := Good(r), wantedGood(r); got != want {
			t.Fatalf("Good(%.200v) = %v", r, got)
		}
	}
	for _, r := range append(small(), mixed()...) {
		check(r)
		if !Good(r) {
			t.Fatalf("%v is right", r)
		}
	}
	for _, w := range wrong() {
		check(w)
		if Good(w) {
			t.Fatalf("%.200v isn't right", w)
		}
		for _, r := range []api.Range{not(w), and(w, all()), and(all(), w), or(all(), all(), w), or(w, all()), and(all(), not(w)), or(all(), and(all(), or(w, all()))), not(not(and(all(), w)))} {
			check(r)
			if Good(r) {
				t.Fatalf("%.200v isn't right, since a range in it isn't", r)
			}
		}
	}
}

// P6.3: Good of right versions, of every kind that has one; and rows without identifiers are none, nil or not.
func TestGoodOfVersions(t *testing.T) {
	for kind := api.RangeGe; kind <= api.RangeTilde; kind++ {
		for _, v := range rightVersions() {
			if r := of(kind, v); !Good(r) {
				t.Errorf("%.80v is right", r)
			}
		}
	}
	empty := api.Version{Pre: []string{}, Build: []string{}}
	for kind := api.RangeAll; kind <= api.RangeTilde; kind++ {
		if r := (api.Range{Kind: kind, V: empty, L: []api.Range{}}); !Good(r) || !Same(r, api.Range{Kind: kind}) {
			t.Errorf("%#v is right, and the same as without lists", r)
		}
	}
	for kind, n := range map[int]int{api.RangeAnd: 2, api.RangeOr: 2, api.RangeNot: 1} {
		if r := (api.Range{Kind: kind, V: empty, L: make([]api.Range, n)}); !Good(r) {
			t.Errorf("%#v is right", r)
		}
	}
}

// P6.3 and P6.4: how deep a right range's ones stand in its Text, whatever they are in: just 64, and one deeper.
func TestHowDeepRightRangesAre(t *testing.T) {
	one := is("1.0.0")
	for name, c := range map[string]struct {
		outer func(api.Range) api.Range
		opens int
	}{
		"not":            {func(r api.Range) api.Range { return not(r) }, 1},
		"and in and":     {func(r api.Range) api.Range { return and(one, r) }, 1},
		"or in or":       {func(r api.Range) api.Range { return or(r, one) }, 1},
		"and in or":      {func(r api.Range) api.Range { return or(all(), and(one, r)) }, 1},
		"or in and":      {func(r api.Range) api.Range { return and(r, or(one, one)) }, 1},
		"not and":        {func(r api.Range) api.Range { return not(and(r, one)) }, 2},
		"not or":         {func(r api.Range) api.Range { return not(or(one, r)) }, 2},
		"and of not":     {func(r api.Range) api.Range { return and(one, not(r)) }, 2},
		"or of not":      {func(r api.Range) api.Range { return or(not(r), one) }, 2},
		"not and in or":  {func(r api.Range) api.Range { return not(or(one, and(r, one))) }, 2},
		"not not and or": {func(r api.Range) api.Range { return not(not(and(one, or(r, one)))) }, 4},
	} {
		for n := 64/c.opens - 2; n <= 64/c.opens+3; n++ {
			for _, leaf := range []api.Range{all(), one, of(api.RangeNe, "1.0.0"), and(one, one), or(one, one), not(one)} {
				r := nested(leaf, n, c.outer)
				m := machine{b: wantedText(r), limit: math.MaxInt}
				m.run()
				if got, want := Good(r), m.deepest <= 64; got != want {
					t.Errorf("%s, %d times: Good is %v, its text is %d deep", name, n, got, m.deepest)
				}
				if got := read(Text(r)); (got.e == api.OK) != (m.deepest <= 64) || got.e != api.OK && got.e != api.ErrDeep || got.e == api.OK && !like(got.r, r) {
					t.Errorf("%s, %d times: its text is %d deep, and read as %d at %d", name, n, m.deepest, got.e, got.at)
				}
			}
		}
	}
	if !Good(nested(one, 64, func(r api.Range) api.Range { return not(r) })) || Good(nested(one, 65, func(r api.Range) api.Range { return not(r) })) || !Good(nested(and(one, one), 63, func(r api.Range) api.Range { return not(r) })) || Good(nested(and(one, one), 64, func(r api.Range) api.Range { return not(r) })) {
		t.Error("signs of not: 64 of them are right, 65 aren't; brackets count too")
	}
}

// P6.3: one that is too deep is found wherever it stands.
func TestTheDeepOneIsFoundWhereverItStands(t *testing.T) {
	deep := nested(all(), 64, func(r api.Range) api.Range { return not(r) })
	for n := range 5 {
		for i := range n + 2 {
			l := slices.Repeat([]api.Range{all()}, n+2)
			l[i] = deep
			if !Good(and(l...)) || !Good(or(l...)) {
				t.Errorf("64 deep at %d of %d isn't right", i, n+2)
			}
			l[i] = not(deep)
			if Good(and(l...)) || Good(or(l...)) {
				t.Errorf("65 deep at %d of %d is right", i, n+2)
			}
		}
	}
}

// P6.3: Same, by hand: kinds, versions (builds too), ranges and their order; where they count or not.
func TestSameOfSomeRanges(t *testing.T) {
	one, two := is("1.0.0"), is("2.0.0")
	room := []api.Range{one, two}
	for i, c := range []struct {
		a, b api.Range
		want bool
	}{
		{all(), api.Range{}, true}, {all(), api.Range{L: []api.Range{}, V: api.Version{Pre: []string{}, Build: []string{}}}, true}, {one, is("1.0.0"), true}, {one, two, false}, {one, of(api.RangeNe, "1.0.0"), false}, {one, is("1.0.0+b"), false}, {is("1.0.0+a"), is("1.0.0+b"), false}, {is("1.0.0-a"), is("1.0.0-b"), false}, {is("1.0.0-a"), one, false}, {is("1.0.0-a.b+c"), is("1.0.0-a.b+c"), true}, {is("0.1.0"), is("0.0.1"), false},
		{and(one, two), and(one, two), true}, {and(one, two), and(two, one), false}, {and(one, two), or(one, two), false}, {and(one, two), and(one, two, two), false}, {and(one, two, two), and(one, two), false}, {and(one, one), and(one, two), false}, {and(one, one), and(two, one), false}, {not(one), not(one), true}, {not(one), not(two), false}, {not(one), not(not(one)), false}, {not(not(one)), not(not(one)), true}, {not(not(one)), not(not(two)), false}, {not(one), one, false},
		{and(and(one, two), or(one, two)), and(and(one, two), or(one, two)), true}, {and(and(one, two), or(one, two)), and(and(one, two), or(two, two)), false}, {and(and(one, two), or(one, two)), and(and(two, two), or(one, two)), false}, {or(not(and(one, two)), one), or(not(and(one, not(two))), one), false}, {and(one, and(one, two)), and(and(one, two), one), false},
		{and(), and(), true}, {and(), or(), false}, {not(), not(one), false}, {and(one), and(one), true}, {and(one), and(), false}, {api.Range{Kind: 12}, api.Range{Kind: 12}, true}, {api.Range{Kind: 12}, api.Range{Kind: 13}, false}, {api.Range{Kind: 1 << 32}, api.Range{}, false}, {api.Range{V: version("1.0.0")}, api.Range{}, false}, {api.Range{L: room}, api.Range{}, false}, {api.Range{L: room}, api.Range{L: []api.Range{one, two}}, true}, {api.Range{Kind: api.RangeGe, L: room}, api.Range{Kind: api.RangeGe, L: room[1:]}, false},
		{api.Range{Kind: 9, L: room[:1]}, and(one), true}, {api.Range{Kind: 9, L: room[:0]}, and(), true},
	} {
		if Same(c.a, c.b) != c.want || Same(c.b, c.a) != c.want || !Same(c.a, c.a) || !Same(c.b, deepCopy(c.b)) {
			t.Errorf("%d: Same(%v, %v) = %v", i, c.a, c.b, !c.want)
		}
	}
}

// P6.3: Same of each against each, right ones and wrong ones, field by field.
func TestSameOfWhateverRanges(t *testing.T) {
	l := append(small(), mixed()[:200]...)
	l = append(l, wrong()...)
	for i, a := range l {
		for k, b := range l {
			if got, want := Same(a, deepCopy(b)), like(a, b); got != want || i == k && !got {
				t.Fatalf("Same(%.200v, %.200v) = %v", a, b, got)
			}
		}
	}
}

// P6.4: right ranges' Texts are read as they are.
func TestRightRangesAreReadAsTheyWere(t *testing.T) {
	for _, r := range append(small(), mixed()...) {
		checkTold(t, r)
		checkTold(t, not(r))
		checkTold(t, and(r, not(r), r))
		checkTold(t, or(r, r))
		checkTold(t, or(and(all(), r), not(or(r, all()))))
	}
	for kind := api.RangeGe; kind <= api.RangeTilde; kind++ {
		for _, v := range rightVersions() {
			r := of(kind, v)
			checkTold(t, r)
			checkTold(t, not(r))
			checkTold(t, and(r, not(r)))
			checkTold(t, or(r, and(not(not(r)), r)))
		}
	}
}

// P1 and P6.4: long expressions.
func TestLongExpressions(t *testing.T) {
	for s, kind := range map[string]int{strings.Repeat("*", 100000): api.RangeAnd, strings.Repeat("1.0.0||", 100000) + "*": api.RangeOr, strings.Repeat("!1.0.0,", 100000) + "*": api.RangeAnd, strings.Repeat(" ", 1000000) + "(* *)": api.RangeAnd, "*" + strings.Repeat("\t", 1000000) + "*": api.RangeAnd} {
		got := read(s)
		if got.e != api.OK || got.r.Kind != kind || !Good(got.r) || !got.like(wantedRead(s)) {
			t.Errorf("Read(%.20q) = %d at %d", s, got.e, got.at)
		}
		if again := read(Text(got.r)); again.e != api.OK || !Same(again.r, got.r) {
			t.Errorf("the text of %.20q is read as another range", s)
		}
	}
	for s, want := range map[string]answer{strings.Repeat("(", 1000000): refused(64, api.ErrDeep), strings.Repeat("!", 1000000): refused(64, api.ErrDeep), strings.Repeat(" ", 1000000): refused(1000000, api.ErrEmpty), strings.Repeat("1.0.0,", 1000): refused(6000, api.ErrEmpty), strings.Repeat("9", 1000000): refused(0, api.ErrLarge)} {
		if got := read(s); !got.like(want) {
			t.Errorf("Read(%.20q) = %d at %d, want %d at %d", s, got.e, got.at, want.e, want.at)
		}
	}
}

// P1 and R1: a range that nobody read may be nested deeper than calls can be: the room for calls is made small here, since a stack that is too small ends the program.
func TestRangesOfAnyDepth(t *testing.T) {
	const levels = 1 << 17
	defer debug.SetMaxStack(debug.SetMaxStack(1 << 20))
	signs := nested(is("1.0.0"), levels, func(r api.Range) api.Range { return not(r) })
	others := nested(is("2.0.0"), levels, func(r api.Range) api.Range { return not(r) })
	if got, want := Text(signs), strings.Repeat("!", levels)+" =1.0.0"; got != want {
		t.Errorf("signs of not: a text of %d bytes, want %d", len(got), len(want))
	}
	if Good(signs) || !Same(signs, signs) || Same(signs, others) || Same(others, not(others)) {
		t.Error("signs of not: Good or Same")
	}
	lists := nested(all(), levels, func(r api.Range) api.Range { return and(or(all(), r), all()) })
	if got, want := Text(lists), strings.Repeat("(* || ", levels)+"*"+strings.Repeat("), *", levels); got != want {
		t.Errorf("lists: a text of %d bytes, want %d", len(got), len(want))
	}
	if Good(lists) || !Same(lists, lists) || Same(lists, or(lists, all())) {
		t.Error("lists: Good or Same")
	}
	ones := nested(is("1.0.0"), levels, func(r api.Range) api.Range { return and(or(r)) })
	if Good(ones) || !Same(ones, ones) || len(Text(ones)) != len("=1.0.0")+2*levels {
		t.Error("lists of one")
	}
}

// P1: a range that has itself within is not right, and that is told.
func TestGoodOfARangeWithinItself(t *testing.T) {
	for _, kind := range []int{api.RangeNot, api.RangeAnd, api.RangeOr} {
		l := make([]api.Range, 2)
		l[0], l[1] = api.Range{Kind: kind, L: l}, api.Range{Kind: api.RangeAnd, L: l}
		if kind == api.RangeNot {
			l = l[:1]
			l[0].L = l
		}
		if Good(api.Range{Kind: kind, L: l}) {
			t.Errorf("kind %d: a range within itself is right", kind)
		}
	}
}

// R4: Parse keeps nothing of the bytes, and leaves them as they were, what lies behind their length too.
func TestParseKeepsNoBytes(t *testing.T) {
	const s = " >=1.0.0-rc.1+b || !(2.0.0-a, ~3.0.0+c) x"
	room := []byte(s + "behind")
	b := room[:len(s)]
	got := parse(b, 0)
	if string(room) != s+"behind" {
		t.Errorf("the bytes are changed: %q", room)
	}
	for i := range room {
		room[i] = '9'
	}
	want := or(of(api.RangeGe, "1.0.0-rc.1+b"), not(and(is("2.0.0-a"), of(api.RangeTilde, "3.0.0+c"))))
	if !got.like(answer{want, len(s) - 1, api.OK}) {
		t.Errorf("Parse(%q) = %v, once the bytes are others", s, got)
	}
}

// grow adds an element to every list of a range, one by one.
func grow(r *api.Range) {
	for i := range r.L {
		grow(&r.L[i])
	}
	r.V.Pre, r.V.Build, r.L = append(r.V.Pre, "grown"), append(r.V.Build, "grown"), append(r.L, not(all()))
}

// R4: what is read is new, and no two lists of it share memory: grown, one changes no other.
func TestWhatIsReadIsNewMemory(t *testing.T) {
	const s = "1.0.0-a.b.c+d.e.f || (2.0.0-a 3.0.0 *) || !(4.0.0+b || !5.0.0-x.y.z) || 1.0.0-a.b.c+d.e.f"
	want := read(s)
	got := read(s)
	wantGrown := deepCopy(want.r)
	grow(&wantGrown)
	grow(&got.r)
	if !like(got.r, wantGrown) {
		t.Errorf("lists of one answer share memory: %v, want %v", got.r, wantGrown)
	}
	for i := range got.r.L {
		got.r.L[i] = not()
	}
	if again := read(s); !again.like(want) || !again.like(wantedRead(s)) {
		t.Errorf("Read later = %v, want %v", again, want)
	}
}

// R4: ranges that are handed in are left as they were, and what lies behind their lists' lengths is neither read nor written.
func TestRangesAreLeftAsTheyWere(t *testing.T) {
	texts := []string{"a", "b", "behind"}
	room := []api.Range{{Kind: api.RangeGe, V: api.Version{Major: 1, Pre: texts[:1], Build: texts[1:2]}}, not(is("1.0.0")), or(is("2.0.0"), and(is("3.0.0"), all())), {Kind: 99}, {Kind: 98}}
	r := api.Range{Kind: api.RangeAnd, L: room[:3]}
	was, roomWas, textsWere := deepCopy(r), deepCopy(api.Range{L: room}), slices.Clone(texts)
	if got, want := Text(r), ">=1.0.0-a+b, ! =1.0.0, (=2.0.0 || =3.0.0, *)"; got != want {
		t.Errorf("Text = %q, want %q", got, want)
	}
	if !Good(r) || !Same(r, was) || !Same(was, r) || Same(r, and(room...)) {
		t.Error("Good or Same hang on what lies behind a length")
	}
	if !like(r, was) || !like(api.Range{L: room}, roomWas) || !slices.Equal(texts, textsWere) {
		t.Errorf("what was handed in is changed: %v", r)
	}
}

// The chapter's examples.
func TestExamples(t *testing.T) {
	r, at, e := Read("^1.2.3 || >=2.0.0, !=2.1.0")
	if e != api.OK || at != 0 || r.Kind != api.RangeOr || len(r.L) != 2 || r.L[0].Kind != api.RangeCaret || r.L[1].Kind != api.RangeAnd || Text(r) != "^1.2.3 || >=2.0.0, !=2.1.0" {
		t.Errorf("Read = %v, %d, %d", r, at, e)
	}
	if r, at, e := Read("(1.0.0"); e != api.ErrEmpty || at != 6 || !Same(r, api.Range{}) {
		t.Errorf("Read = %v, %d, %d", r, at, e)
	}
}

// P1, P6.1, P6.2 and P6.4: whatever bytes there are.
func FuzzParse(f *testing.F) {
	for _, s := range []string{"^1.2.3 || >=2.0.0, !=2.1.0", "(1.0.0", "!! =1.0.0-rc.1+b*", "!(* || \t~1.0.0)<2.0.0", strings.Repeat("(!", 33), "1.0.0 |", ">> 1"} {
		f.Add([]byte(s), 0)
		f.Add([]byte(s), 2)
	}
	f.Fuzz(func(t *testing.T, b []byte, at int) {
		if got, want := parse(b, at), wantedParse(b, at); !got.like(want) {
			t.Fatalf("Parse(%q, %d) = %v, want %v", b, at, got, want)
		}
		checkRead(t, string(b))
	})
}

// grown is a range that bytes tell, of kinds that are some and others, with right versions and wrong ones.
func grown(b []byte) api.Range {
	stack := []api.Range{all()}
	pop := func() api.Range {
		r := stack[len(stack)-1]
		if len(stack) > 1 {
			stack = stack[:len(stack)-1]
		}
		return r
	}
	for _, c := range b {
		n := int(c) / 16
		switch kind := int(c) % 16; kind {
		case api.RangeAnd, api.RangeOr, api.RangeNot:
			r := api.Range{Kind: kind}
			for range n % 4 {
				r.L = append(r.L, pop())
			}
			stack = append(stack, r)
		case 13:
			stack = append(stack, not(pop()))
		case 14:
			stack = append(stack, and(pop(), pop()))
		case 15:
			stack = append(stack, or(pop(), pop()))
		case 0:
			stack = append(stack, api.Range{V: wrongVersions()[n%len(wrongVersions())]}, all())
		default:
			stack = append(stack, of(kind, rightVersions()[n%12]))
		}
	}
	return pop()
}

// P1, P6.3 and P6.4: whatever ranges there are.
func FuzzTell(f *testing.F) {
	f.Add([]byte{1, 2, 14, 13, 5, 15})
	f.Add([]byte{5, 13, 13, 6, 14, 14, 3, 0x29, 0x1b})
	f.Add(slices.Repeat([]byte{13}, 65))
	f.Fuzz(func(t *testing.T, b []byte) {
		if len(b) > 300 {
			return
		}
		r := grown(b)
		text := Text(r)
		if text != wantedText(r) || Good(r) != wantedGood(r) || !Same(r, deepCopy(r)) || Same(r, not(r)) {
			t.Fatalf("Text, Good or Same of %v", r)
		}
		if Good(r) {
			checkTold(t, r)
		}
		checkRead(t, text)
	})
}
