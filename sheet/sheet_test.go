package sheet

import (
	"fmt"
	"math"
	"regexp"
	"slices"
	"strings"
	"testing"

	"ferrule/api"
	"ferrule/rangeexpr"
	"ferrule/semver"
)

// most is the greatest number that is held.
const most = "9223372036854775807"

func version(s string) api.Version {
	v, _, e := semver.Read(s)
	if e != api.OK {
		panic(s + " isn't a version")
	}
	return v
}

func expr(s string) api.Range {
	r, _, e := rangeexpr.Read(s)
	if e != api.OK {
		panic(s + " isn't an expression")
	}
	return r
}

func dep(name, s string) api.Dep              { return api.Dep{Name: name, R: expr(s)} }
func pin(name, s string) api.Pin              { return api.Pin{Name: name, V: version(s)} }
func index(l ...api.Pack) api.Index           { return api.Index{Packs: l} }
func release(s string, l ...edit) api.Release { return edited(api.Release{V: version(s)}, l) }
func pack(name string, l ...api.Release) api.Pack {
	return api.Pack{Name: name, Releases: l}
}

// edit is a change of a release.
type edit func(r *api.Release)

func edited(r api.Release, l []edit) api.Release {
	for _, change := range l {
		change(&r)
	}
	return r
}

func needs(name, s string) edit {
	return func(r *api.Release) { r.Needs = append(r.Needs, dep(name, s)) }
}

func bans(name, s string) edit {
	return func(r *api.Release) { r.Bans = append(r.Bans, dep(name, s)) }
}

func takenBack(r *api.Release) { r.Yanked = true }

func likeVersion(a, b api.Version) bool {
	return a.Major == b.Major && a.Minor == b.Minor && a.Patch == b.Patch && slices.Equal(a.Pre, b.Pre) && slices.Equal(a.Build, b.Build)
}

// likeRange compares ranges field by field, as all of these do, so that nothing that is tested is taken for granted.
func likeRange(a, b api.Range) bool {
	return a.Kind == b.Kind && likeVersion(a.V, b.V) && slices.EqualFunc(a.L, b.L, likeRange)
}

func likeDep(a, b api.Dep) bool { return a.Name == b.Name && likeRange(a.R, b.R) }

func likeRelease(a, b api.Release) bool {
	return likeVersion(a.V, b.V) && a.Yanked == b.Yanked && slices.EqualFunc(a.Needs, b.Needs, likeDep) && slices.EqualFunc(a.Bans, b.Bans, likeDep)
}

func likePack(a, b api.Pack) bool {
	return a.Name == b.Name && slices.EqualFunc(a.Releases, b.Releases, likeRelease)
}

func likePin(a, b api.Pin) bool { return a.Name == b.Name && likeVersion(a.V, b.V) }

// shown is what stands in something, as far as it is short enough to be read.
func shown(x any) string {
	s := fmt.Sprint(x)
	return s[:min(len(s), 1000)]
}

// kind is which of the three kinds of texts one is read as.
type kind int

const (
	anIndex kind = iota
	someRoots
	somePins
)

var kinds = []kind{anIndex, someRoots, somePins}

// told is what is read of a text: one of the three, the others empty.
type told struct {
	packs []api.Pack
	deps  []api.Dep
	pins  []api.Pin
}

func (a told) like(b told) bool {
	return slices.EqualFunc(a.packs, b.packs, likePack) && slices.EqualFunc(a.deps, b.deps, likeDep) && slices.EqualFunc(a.pins, b.pins, likePin)
}

// answer is what Index, Roots and Pins answer.
type answer struct {
	told
	at int
	e  api.Errno
}

func (a answer) like(b answer) bool { return a.told.like(b.told) && a.at == b.at && a.e == b.e }

func refused(at int, e api.Errno) answer { return answer{at: at, e: e} }

func (k kind) read(b []byte) (a answer) {
	switch k {
	case anIndex:
		var x api.Index
		x, a.at, a.e = Index(b)
		a.packs = x.Packs
	case someRoots:
		a.deps, a.at, a.e = Roots(b)
	case somePins:
		a.pins, a.at, a.e = Pins(b)
	}
	return a
}

func (k kind) tell(c told) string {
	switch k {
	case anIndex:
		return IndexText(api.Index{Packs: c.packs})
	case someRoots:
		return RootsText(c.deps)
	}
	return PinsText(c.pins)
}

// The second way of reading: lines are cut by strings.Split, parts by what shape a line is to have; what is right is put together from the last line to the first one.

var nameShape = regexp.MustCompile(`\A[a-z0-9][a-z0-9_.-]{0,254}\z`)

// shapes are the parts of each kind of text's lines behind their first words.
var shapes = []map[string]string{
	{"package": "n", "version": "v", "yanked": "v", "needs": "nr", "bans": "nr"},
	{"root": "nr"},
	{"pin": "nv"},
}

// placed is a line, and where it begins.
type placed struct {
	at    int
	parts []string
}

// fault is what is wrong with the parts behind a line's first word, and where.
func (l placed) fault(shape string) (at int, e api.Errno) {
	at = l.at + len(l.parts[0])
	for i, sort := range shape {
		if i+1 == len(l.parts) {
			return at, api.ErrEmpty
		}
		at++
		part, last := l.parts[i+1], i+2 == len(l.parts)
		var n int
		switch {
		case part == "" && last:
			return at, api.ErrEmpty
		case sort == 'n' && !nameShape.MatchString(part):
			return at, api.ErrName
		case sort == 'v':
			_, n, e = semver.Read(part)
		case sort == 'r':
			_, n, e = rangeexpr.Read(part)
		}
		if e != api.OK {
			return at + n, e
		}
		at += len(part)
	}
	return 0, api.OK
}

// misplaced tells whether what a line of an index needs doesn't stand ahead of it.
func misplaced(word string, before []placed) bool {
	for _, l := range slices.Backward(before) {
		if ahead := l.parts[0]; word == "package" || ahead == "package" || ahead == "version" || ahead == "yanked" {
			return ahead == "package" && (word == "needs" || word == "bans")
		}
	}
	return word != "package"
}

func (k kind) wanted(b []byte) answer {
	if len(b) > 16777216 {
		return refused(0, api.ErrLarge)
	}
	var all []placed
	at := 0
	for _, s := range strings.SplitAfter(string(b), "\n") {
		from := at
		at += len(s)
		s = strings.TrimSuffix(s, "\n")
		if s == "" || strings.HasPrefix(s, "#") {
			continue
		}
		word, _, _ := strings.Cut(s, " ")
		shape, known := shapes[k][word]
		if !known || k == anIndex && misplaced(word, all) {
			return refused(from, api.ErrLine)
		}
		l := placed{from, strings.SplitN(s, " ", 1+len(shape))}
		if at, e := l.fault(shape); e != api.OK {
			return refused(at, e)
		}
		all = append(all, l)
	}
	return answer{told: together(all)}
}

// together is what right lines tell.
func together(all []placed) (c told) {
	var p api.Pack
	var r api.Release
	for _, l := range slices.Backward(all) {
		switch l.parts[0] {
		case "package":
			p.Name = l.parts[1]
			c.packs = append(c.packs, p)
			p = api.Pack{}
		case "version", "yanked":
			r.V, r.Yanked = version(l.parts[1]), l.parts[0] == "yanked"
			p.Releases = slices.Insert(p.Releases, 0, r)
			r = api.Release{}
		case "needs":
			r.Needs = slices.Insert(r.Needs, 0, dep(l.parts[1], l.parts[2]))
		case "bans":
			r.Bans = slices.Insert(r.Bans, 0, dep(l.parts[1], l.parts[2]))
		case "root":
			c.deps = append(c.deps, dep(l.parts[1], l.parts[2]))
		case "pin":
			c.pins = append(c.pins, pin(l.parts[1], l.parts[2]))
		}
	}
	slices.Reverse(c.packs)
	slices.Reverse(c.deps)
	slices.Reverse(c.pins)
	return c
}

// check holds what is read of a text against the second way, in each kind.
func check(t *testing.T, s string) {
	t.Helper()
	for _, k := range kinds {
		if got, want := k.read([]byte(s)), k.wanted([]byte(s)); !got.like(want) {
			t.Fatalf("%d of %s: %s, want %s", k, shown(fmt.Sprintf("%q", s)), shown(got), shown(want))
		}
	}
}

// expect holds what is read of a text against what it is to be, and the second way too.
func expect(t *testing.T, k kind, s string, want answer) {
	t.Helper()
	if got := k.read([]byte(s)); !got.like(want) {
		t.Errorf("%d of %.120q: %s, want %s", k, s, shown(got), shown(want))
	}
	if got := k.wanted([]byte(s)); !got.like(want) {
		t.Errorf("%d of %.120q: the second way says %s, want %s", k, s, shown(got), shown(want))
	}
}

func indexOf(l ...api.Pack) answer { return answer{told: told{packs: l}} }
func rootsOf(l ...api.Dep) answer  { return answer{told: told{deps: l}} }
func pinsOf(l ...api.Pin) answer   { return answer{told: told{pins: l}} }

// P10.1: indexes, by hand.
func TestIndexByHand(t *testing.T) {
	long := "x" + strings.Repeat("-", 254)
	for s, want := range map[string]answer{
		"package a\nversion 1.0.0\nneeds b ^1.0.0": indexOf(pack("a", release("1.0.0", needs("b", "^1.0.0")))),
		"package a":                       indexOf(pack("a")),
		"package a\n":                     indexOf(pack("a")),
		"package " + long + "\n":          indexOf(pack(long)),
		"package 0-_.\npackage 1.0.0\n":   indexOf(pack("0-_."), pack("1.0.0")),
		"package package\nversion 0.0.0":  indexOf(pack("package", release("0.0.0"))),
		"package b\npackage a\npackage c": indexOf(pack("b"), pack("a"), pack("c")),
		"package a\nversion 1.0.0":        indexOf(pack("a", release("1.0.0"))),
		"package a\nyanked 1.0.0":         indexOf(pack("a", release("1.0.0", takenBack))),
		"package a\nyanked 1.0.0-rc.1+b.01\nversion " + most + ".0." + most + "\nyanked 0.0.0\n": indexOf(pack("a", release("1.0.0-rc.1+b.01", takenBack), release(most+".0."+most), release("0.0.0", takenBack))),
		// What a package or a release has belongs to it alone.
		"package a\nversion 1.0.0\npackage b\npackage c\nyanked 1.0.0\nversion 2.0.0":                                            indexOf(pack("a", release("1.0.0")), pack("b"), pack("c", release("1.0.0", takenBack), release("2.0.0"))),
		"package a\nversion 1.0.0\nneeds x *\nversion 2.0.0\nyanked 3.0.0\nbans y 1.0.0\npackage b\nversion 1.0.0\nneeds z !*\n": indexOf(pack("a", release("1.0.0", needs("x", "*")), release("2.0.0"), release("3.0.0", takenBack, bans("y", "1.0.0"))), pack("b", release("1.0.0", needs("z", "!*")))),
		// Needs and bans in any order.
		"package a\nversion 1.0.0\nbans x *\nneeds y *\nbans y >1.0.0\nneeds x 2.0.0\nneeds y *\nbans x *": indexOf(pack("a", release("1.0.0", needs("y", "*"), needs("x", "2.0.0"), needs("y", "*"), bans("x", "*"), bans("y", ">1.0.0"), bans("x", "*")))),
		// A range is all that is left of its line, blanks too.
		"package a\nversion 1.0.0\nneeds b >=1.0.0 <2.0.0 || 3.0.0":              indexOf(pack("a", release("1.0.0", needs("b", ">=1.0.0, <2.0.0 || =3.0.0")))),
		"package a\nversion 1.0.0\nneeds b   ( 1.0.0 ) \t\n\nbans b \t!\t* \n":   indexOf(pack("a", release("1.0.0", needs("b", "1.0.0"), bans("b", "!*")))),
		"package a\nversion 1.0.0\nneeds b " + strings.Repeat("!", 64) + "*":     indexOf(pack("a", release("1.0.0", needs("b", strings.Repeat("!", 64)+"*")))),
		"package a\nversion 1.0.0\nneeds b *\nneeds b *\npackage a\npackage a\n": indexOf(pack("a", release("1.0.0", needs("b", "*"), needs("b", "*"))), pack("a"), pack("a")),
		// An index that isn't right is read too: it is what the lines tell.
		"package a\nversion 1.0.0\nbans a *\nversion 1.0.0\nyanked 1.0.0": indexOf(pack("a", release("1.0.0", bans("a", "*")), release("1.0.0"), release("1.0.0", takenBack))),
	} {
		expect(t, anIndex, s, want)
	}
}

// P10.1: roots and pins, by hand.
func TestRootsAndPinsByHand(t *testing.T) {
	expect(t, someRoots, "root a *", rootsOf(dep("a", "*")))
	expect(t, someRoots, "root a *\n", rootsOf(dep("a", "*")))
	expect(t, someRoots, "root root 1.0.0\nroot b >=1.0.0-0  <2.0.0 \nroot a *\nroot root 1.0.0", rootsOf(dep("root", "1.0.0"), dep("b", ">=1.0.0-0, <2.0.0"), dep("a", "*"), dep("root", "1.0.0")))
	expect(t, someRoots, "root 9 !(1.0.0||2.0.0)", rootsOf(dep("9", "!(1.0.0 || 2.0.0)")))
	expect(t, somePins, "pin a 1.0.0", pinsOf(pin("a", "1.0.0")))
	expect(t, somePins, "pin a 1.0.0\n", pinsOf(pin("a", "1.0.0")))
	expect(t, somePins, "pin pin 1.0.0-rc+b\npin b 0.0.0\npin a "+most+".0.0\npin pin 2.0.0", pinsOf(pin("pin", "1.0.0-rc+b"), pin("b", "0.0.0"), pin("a", most+".0.0"), pin("pin", "2.0.0")))
}

// P10.1: texts without lines that tell something.
func TestTextsOfNothing(t *testing.T) {
	for _, k := range kinds {
		for _, b := range [][]byte{nil, {}, []byte("pin a 1.0.0")[:0]} {
			if got := k.read(b); !got.like(answer{}) {
				t.Errorf("%d of no bytes: %v", k, got)
			}
		}
		for _, s := range []string{"", "\n", "\n\n\n", "#", "#\n", "##", "#\n#", "# package", "#package a\n", "#root a *\n#pin a 1.0.0", "\n#\n\n# \n", "#\x00\xff\n", "# a\r\n", "#\t\n\n\n#", "#" + strings.Repeat(" #", 1000)} {
			expect(t, k, s, answer{})
		}
	}
}

// samples are texts that are read as one kind.
func samples(k kind) []string {
	return [][]string{
		{"", "package a\n", "package lib\nversion 1.0.0\nneeds b ^1.0.0 || 2.0.0\nbans c !*\nyanked 1.0.0-rc.1+b\npackage app\nyanked 2.0.0\nbans d >1.0.0 <2.0.0\nneeds e (1.0.0)\n"},
		{"", "root a *\n", "root lib ^1.0.0\nroot b >=1.0.0, <2.0.0\nroot lib ! 1.0.0\n"},
		{"", "pin a 1.0.0\n", "pin lib 1.0.0-rc.1+b\npin a 2.0.0\npin lib 1.10.0\n"},
	}[k]
}

// P10.1: empty lines and those that begin with #, between all lines of a text, ahead of them and behind; a last newline, or none.
func TestLinesThatArePassedOver(t *testing.T) {
	for _, k := range kinds {
		for _, s := range samples(k) {
			want := k.wanted([]byte(s))
			if want.e != api.OK {
				t.Fatalf("%d of %q: %v", k, s, want)
			}
			lines := strings.SplitAfter(s, "\n")
			for _, over := range []string{"\n", "#\n", "# package a\n", "#\n\n##\n", "\n\n\n", "#version 1.0.0\n", "#\r\n", "# \xff\x00\t\n", "# a b c\n\n"} {
				for at := range lines {
					with := strings.Join(slices.Insert(slices.Clone(lines), at, over), "")
					expect(t, k, with, want)
					expect(t, k, strings.TrimSuffix(with, "\n"), want)
				}
				expect(t, k, over+strings.Join(lines, over)+over, want)
			}
			expect(t, k, strings.TrimSuffix(s, "\n"), want)
			expect(t, k, s+"#", want)
			expect(t, k, s+"#package", want)
			// A # that stands elsewhere is none.
			expect(t, k, s+" #", refused(len(s), api.ErrLine))
			expect(t, k, s+"\t#\n", refused(len(s), api.ErrLine))
		}
	}
	expect(t, anIndex, "package a#b", refused(8, api.ErrName))
	expect(t, anIndex, "package #", refused(8, api.ErrName))
	expect(t, anIndex, "package a\nversion 1.0.0#", refused(23, api.ErrLine))
	expect(t, someRoots, "root a * # all of them", refused(9, api.ErrLine))
	expect(t, someRoots, "root # *", refused(5, api.ErrName))
	expect(t, somePins, "pin a #1.0.0", refused(6, api.ErrShort))
}

// P10.1: texts of as many bytes as there may be, and of one more.
func TestMaxInput(t *testing.T) {
	const most = 16777216
	full := func(line, last string) string {
		return strings.Repeat(line, most/len(line)+1)[:most-len(last)-1] + "\n" + last
	}
	for _, k := range kinds {
		last := samples(k)[2]
		want := k.wanted([]byte(last))
		comment := full("# a remark of some length, as there may be in a text\n", last)
		for _, s := range []string{comment, last + "#" + comment[:most-len(last)-1]} {
			if got := k.read([]byte(s)); len(s) != most || !got.like(want) {
				t.Errorf("%d of %d bytes: %s", k, len(s), shown(got))
			}
			for _, more := range []string{"\n", "#", "x"} {
				if got := k.read([]byte(s + more)); !got.like(refused(0, api.ErrLarge)) {
					t.Errorf("%d of %d bytes: %s", k, most+1, shown(got))
				}
			}
		}
		if got := k.read([]byte(comment[1:] + "x")); !got.like(refused(0, api.ErrLine)) {
			t.Errorf("%d, with a fault at the beginning: %s", k, shown(got))
		}
		if got := k.read([]byte("#" + comment[2:] + "x")); !got.like(refused(most-1, api.ErrLine)) {
			t.Errorf("%d, with a fault at the end: %s", k, shown(got))
		}
		for _, n := range []int{most + 1, most + 2, 2 * most, 2*most + 1} {
			if got := k.read(make([]byte, n)); !got.like(refused(0, api.ErrLarge)) {
				t.Errorf("%d of %d bytes: %s", k, n, shown(got))
			}
		}
	}
	if got := someRoots.read([]byte(full("\n", "root a *"))); !got.like(rootsOf(dep("a", "*"))) {
		t.Errorf("behind newlines: %s", shown(got))
	}
}

// P10.1 and P1: texts of few long parts, and of many lines.
func TestGreatTexts(t *testing.T) {
	const n = 16000000
	of := func(s string) string { return strings.Repeat(s, n/len(s)) }
	for _, c := range []struct {
		k    kind
		s    string
		want answer
	}{
		{anIndex, of("a"), refused(0, api.ErrLine)},
		{anIndex, of(" "), refused(0, api.ErrLine)},
		{anIndex, "package " + of("a"), refused(8, api.ErrName)},
		{anIndex, "package " + of(" "), refused(8, api.ErrName)},
		{anIndex, "package a\nversion " + of("1"), refused(18, api.ErrLarge)},
		{anIndex, "package a\nversion 1.0.0" + of(" "), refused(23, api.ErrLine)},
		{anIndex, "package a\nversion 1.0.0\nneeds b" + of(" "), refused(31+n, api.ErrEmpty)},
		{anIndex, "package a\nversion 1.0.0\nneeds b " + of("("), refused(32+64, api.ErrDeep)},
		{anIndex, "package a\nversion 1.0.0\nneeds " + of("b") + " *", refused(30, api.ErrName)},
		{someRoots, "root a *\n" + of("\n \n")[:3*1000000] + "root", refused(10, api.ErrLine)},
		{someRoots, "root a *" + of(" "), rootsOf(dep("a", "*"))},
		{somePins, "pin a 1.0.0\n#" + of("\x00") + "\npin b 2.0.0", pinsOf(pin("a", "1.0.0"), pin("b", "2.0.0"))},
	} {
		if got := c.k.read([]byte(c.s)); !got.like(c.want) {
			t.Errorf("%d of %.40q ..: %s, want %s", c.k, c.s, shown(got), shown(c.want))
		}
	}
	repeated := func(k kind, line string, many int) {
		s := strings.Repeat(line, many)
		if k == anIndex {
			s = "package a\nversion 1.0.0\n" + s
		}
		got, want := k.read([]byte(s)), k.wanted([]byte(s))
		if !got.like(want) || want.e != api.OK {
			t.Errorf("%d times %q: %s", many, line, shown(got))
		}
	}
	repeated(anIndex, "package a\n", 50000)
	repeated(anIndex, "version 1.0.0\n", 3000)
	repeated(anIndex, "needs a 1.0.0\n", 3000)
	repeated(anIndex, "package a\nyanked 1.0.0\nneeds a *\nbans a *\n", 20000)
	repeated(someRoots, "root a 1.0.0\n", 50000)
	repeated(somePins, "pin a 1.0.0-rc\n", 50000)
	if x, _, e := Index([]byte(strings.Repeat("package a\n", api.MaxInput/10))); len(x.Packs) != api.MaxInput/10 || e != api.OK {
		t.Errorf("%d packages, %d", len(x.Packs), e)
	}
}

// R8: the same text is read as the same, each time.
func TestReadAgain(t *testing.T) {
	for _, k := range kinds {
		for _, s := range append(samples(k), "package", "root a ^", "pin a 1.0", "package a\nneeds b *") {
			first := k.read([]byte(s))
			for range 50 {
				if again := k.read([]byte(s)); !again.like(first) {
					t.Fatalf("%d of %q: %v, then %v", k, s, first, again)
				}
			}
		}
	}
}

// P1 and P10.1: whatever bytes are read.
func FuzzRead(f *testing.F) {
	for _, k := range kinds {
		for _, s := range samples(k) {
			f.Add([]byte(s))
		}
	}
	for _, s := range []string{"package a\nversion 1.0.0\nneeds b^ *", "needs  b *", "# \r\npackage a\r\n", "package a\nversion 1.0.0 \n", "root a  (*)\t", "pin a\t1.0.0", "\xff\x00", "package a\n\nyanked 1.2\n", "package a\nversion 1.0.0\npackage b\nbans c *"} {
		f.Add([]byte(s))
	}
	f.Fuzz(func(t *testing.T, b []byte) {
		was := string(b)
		check(t, was)
		for _, k := range kinds {
			if got := k.read(b); got.e == api.OK {
				again(t, k, got.told)
			}
		}
		if string(b) != was {
			t.Fatalf("%q became %q", was, b)
		}
	})
}

// wrongNames and wrongVersions are some of each sort.
func wrongNames() []string {
	return []string{"-", "_a", ".", "A", "aB", "a\x00", "\x00", "\xff", "a\u00e9", "a/b", "a@1", "*", "^1.0.0", "a,", "a\t", "\t", "\ta", "a\r", "a\v", strings.Repeat("a", 256), strings.Repeat("a.", 200)}
}

func wrongVersions() []api.Version {
	long := strings.Repeat("a", api.MaxIdent+1)
	return []api.Version{
		{Major: 1 << 63}, {Minor: math.MaxUint64}, {Pre: []string{""}}, {Pre: []string{"01"}}, {Pre: []string{"a", "\u00e9"}}, {Pre: []string{long}}, {Pre: make([]string, 17)},
		{Pre: []string{"a\nb"}}, {Build: []string{""}}, {Build: []string{"a.b"}}, {Build: []string{"+ "}}, {Build: slices.Repeat([]string{"a"}, 17)}, {Major: 1, Pre: []string{"a"}, Build: []string{"b", ""}},
	}
}
