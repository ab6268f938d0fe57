package sheet

import (
	"math"
	"math/rand/v2"
	"runtime/debug"
	"slices"
	"strconv"
	"strings"
	"testing"
	"unsafe"

	"ferrule/api"
	"ferrule/model"
	"ferrule/rangeexpr"
	"ferrule/semver"
)

// The second way of telling: a list of lines, each put together at once, joined at the end.

func depLines(word string, l []api.Dep) (lines []string) {
	for _, d := range l {
		lines = append(lines, strings.Join([]string{word, d.Name, rangeexpr.Text(d.R)}, " ")+"\n")
	}
	return lines
}

func packLines(p api.Pack) []string {
	lines := []string{"package " + p.Name + "\n"}
	for _, r := range p.Releases {
		word := map[bool]string{false: "version ", true: "yanked "}[r.Yanked]
		lines = slices.Concat(lines, []string{word + semver.Text(r.V) + "\n"}, depLines("needs", r.Needs), depLines("bans", r.Bans))
	}
	return lines
}

func (k kind) wantedText(c told) string {
	var lines []string
	switch k {
	case anIndex:
		for _, p := range c.packs {
			lines = append(lines, packLines(p)...)
		}
	case someRoots:
		lines = depLines("root", c.deps)
	case somePins:
		for _, p := range c.pins {
			lines = append(lines, "pin "+p.Name+" "+semver.Text(p.V)+"\n")
		}
	}
	return strings.Join(lines, "")
}

// again tells what was read, and reads that, and tells it again.
func again(t *testing.T, k kind, c told) {
	t.Helper()
	s := k.tell(c)
	if s != k.wantedText(c) {
		t.Fatalf("%d: %s is told as %q", k, shown(c), s)
	}
	if got := k.read([]byte(s)); !got.like(answer{told: c}) || k.tell(got.told) != s {
		t.Fatalf("%d: %s is told as %q, and read as %s", k, shown(c), s, shown(got))
	}
}

// P10.2: texts, by hand.
func TestTextsByHand(t *testing.T) {
	for _, c := range []struct {
		x    api.Index
		want string
	}{
		{api.Index{}, ""},
		{api.Index{Packs: []api.Pack{}}, ""},
		{index(pack("a")), "package a\n"},
		{index(pack("b"), pack("a"), pack("b")), "package b\npackage a\npackage b\n"},
		{index(pack("a", release("1.0.0"))), "package a\nversion 1.0.0\n"},
		{index(pack("a", release("1.0.0", takenBack))), "package a\nyanked 1.0.0\n"},
		{index(pack("a", release("2.0.0-rc.1+b.01"), release("1.0.0", takenBack), release("2.0.0-rc.1+b.01")), pack("b", release("0.0.0"))), "package a\nversion 2.0.0-rc.1+b.01\nyanked 1.0.0\nversion 2.0.0-rc.1+b.01\npackage b\nversion 0.0.0\n"},
		{index(pack("a", release("1.0.0", needs("b", "^1.0.0")))), "package a\nversion 1.0.0\nneeds b ^1.0.0\n"},
		{index(pack("a", release("1.0.0", bans("b", "1.0.0")))), "package a\nversion 1.0.0\nbans b =1.0.0\n"},
		// Needs stand ahead of bans, each in their order.
		{index(pack("a", release("1.0.0", takenBack, bans("d", "!*"), needs("c", ">1.0.0||<0.1.0"), bans("b", "!1.0.0"), needs("b", "( * )"), needs("c", "*")), release("1.0.1", needs("a", "~1.0.0 !=1.0.2"))), pack("c")), "package a\nyanked 1.0.0\nneeds c >1.0.0 || <0.1.0\nneeds b *\nneeds c *\nbans d !*\nbans b ! =1.0.0\nversion 1.0.1\nneeds a ~1.0.0, !=1.0.2\npackage c\n"},
	} {
		if got := IndexText(c.x); got != c.want {
			t.Errorf("IndexText(%v) = %q, want %q", c.x, got, c.want)
		}
		again(t, anIndex, told{packs: c.x.Packs})
	}
	for _, c := range []struct {
		l    []api.Dep
		want string
	}{
		{nil, ""}, {[]api.Dep{}, ""}, {[]api.Dep{{Name: "a"}}, "root a *\n"}, {[]api.Dep{dep("b", "1.0.0"), dep("a", ">=1.0.0 <2.0.0"), dep("b", "1.0.0")}, "root b =1.0.0\nroot a >=1.0.0, <2.0.0\nroot b =1.0.0\n"},
	} {
		if got := RootsText(c.l); got != c.want {
			t.Errorf("RootsText(%v) = %q, want %q", c.l, got, c.want)
		}
		again(t, someRoots, told{deps: c.l})
	}
	for _, c := range []struct {
		l    []api.Pin
		want string
	}{
		{nil, ""}, {[]api.Pin{}, ""}, {[]api.Pin{{Name: "a"}}, "pin a 0.0.0\n"}, {[]api.Pin{pin("b", "1.0.0-rc+b"), pin("a", most+".0.0"), pin("b", "1.0.0")}, "pin b 1.0.0-rc+b\npin a " + most + ".0.0\npin b 1.0.0\n"},
	} {
		if got := PinsText(c.l); got != c.want {
			t.Errorf("PinsText(%v) = %q, want %q", c.l, got, c.want)
		}
		again(t, somePins, told{pins: c.l})
	}
}

// P10.2: texts of what isn't right: names, versions and ranges as they are.
func TestTextsOfWhatIsNotRight(t *testing.T) {
	x := index(
		pack(""), pack("A b\nc", api.Release{V: api.Version{Major: math.MaxUint64, Pre: []string{"", "\n"}, Build: []string{"a.b", "\xff"}}}),
		pack("-", api.Release{Yanked: true, Needs: []api.Dep{{Name: " ", R: api.Range{Kind: 12}}, {R: api.Range{Kind: api.RangeAnd}}, {Name: "b", R: api.Range{Kind: api.RangeNot}}}, Bans: []api.Dep{{Name: "-", R: api.Range{Kind: -1, V: api.Version{Pre: []string{"01"}}}}}}),
	)
	if got, want := IndexText(x), "package \npackage A b\nc\nversion 18446744073709551615.0.0-.\n+a.b.\xff\npackage -\nyanked 0.0.0\nneeds   0.0.0\nneeds  \nneeds b !\nbans - 0.0.0-01\n"; got != want {
		t.Errorf("IndexText(%v) = %q, want %q", x, got, want)
	}
	for _, s := range append(wrongNames(), "", " ", "\n", "#") {
		one := api.Dep{Name: s}
		if got, want := IndexText(index(pack(s, api.Release{Needs: []api.Dep{one}, Bans: []api.Dep{one}}))), "package "+s+"\nversion 0.0.0\nneeds "+s+" *\nbans "+s+" *\n"; got != want {
			t.Errorf("IndexText = %q, want %q", got, want)
		}
		if got, want := RootsText([]api.Dep{one, dep("a", "*"), one}), "root "+s+" *\nroot a *\nroot "+s+" *\n"; got != want {
			t.Errorf("RootsText = %q, want %q", got, want)
		}
		if got, want := PinsText([]api.Pin{{Name: s}, pin("a", "1.0.0"), {Name: s}}), "pin "+s+" 0.0.0\npin a 1.0.0\npin "+s+" 0.0.0\n"; got != want {
			t.Errorf("PinsText = %q, want %q", got, want)
		}
	}
	for _, v := range wrongVersions() {
		r := api.Range{Kind: api.RangeCaret, V: v}
		c := told{packs: []api.Pack{pack("a", api.Release{V: v, Needs: []api.Dep{{Name: "b", R: r}}})}, deps: []api.Dep{{Name: "b", R: r}}, pins: []api.Pin{{Name: "a", V: v}}}
		want := []string{"package a\nversion " + semver.Text(v) + "\nneeds b ^" + semver.Text(v) + "\n", "root b ^" + semver.Text(v) + "\n", "pin a " + semver.Text(v) + "\n"}
		for _, k := range kinds {
			if got := k.tell(c); got != want[k] {
				t.Errorf("%d: told as %q, want %q", k, got, want[k])
			}
		}
	}
}

// drawnRange is a right range, nested within others.
func drawnRange(r *rand.Rand, levels int) api.Range {
	kind := r.IntN(12)
	if levels == 0 && kind >= api.RangeAnd {
		kind -= 3
	}
	one := api.Range{Kind: kind}
	n := 0
	switch {
	case kind >= api.RangeGe && kind <= api.RangeTilde:
		one.V = drawnVersion(r)
	case kind == api.RangeNot:
		n = 1
	case kind >= api.RangeAnd:
		n = 2 + r.IntN(3)
	}
	for range n {
		one.L = append(one.L, drawnRange(r, levels-1))
	}
	return one
}

func drawnVersion(r *rand.Rand) api.Version {
	row := func(of ...string) (l []string) {
		for range max(0, r.IntN(7)-4) {
			l = append(l, of[r.IntN(len(of))])
		}
		return l
	}
	number := func() uint64 { return []uint64{0, 1, 2, 10, math.MaxInt64}[r.IntN(5)] }
	return api.Version{Major: number(), Minor: number(), Patch: number(), Pre: row("0", "rc", "10", "-", "x-1", most+"0"), Build: row("0", "001", "b", "-", "A")}
}

func drawnName(r *rand.Rand) string {
	return []string{"a", "b", "lib", "lib-x_1.0", "0", "package", "1.0.0", strings.Repeat("z", 255), strconv.Itoa(r.IntN(1000)), "n" + strconv.Itoa(r.IntN(100000))}[r.IntN(10)]
}

func drawnDeps(r *rand.Rand, n int) (l []api.Dep) {
	for range r.IntN(n) {
		l = append(l, api.Dep{Name: drawnName(r), R: drawnRange(r, r.IntN(4))})
	}
	return l
}

// drawnTold is an index, roots and pins whose names, versions and ranges are right; but what is there twice, or bans itself, isn't left out.
func drawnTold(r *rand.Rand) (c told) {
	for range r.IntN(6) {
		p := pack(drawnName(r))
		for range r.IntN(6) {
			p.Releases = append(p.Releases, api.Release{V: drawnVersion(r), Yanked: r.IntN(3) == 0, Needs: drawnDeps(r, 4), Bans: drawnDeps(r, 3)})
		}
		c.packs = append(c.packs, p)
	}
	c.deps = drawnDeps(r, 8)
	for range r.IntN(8) {
		c.pins = append(c.pins, api.Pin{Name: drawnName(r), V: drawnVersion(r)})
	}
	return c
}

// only is what one kind of text tells of it.
func (c told) only(k kind) told {
	return []told{{packs: c.packs}, {deps: c.deps}, {pins: c.pins}}[k]
}

// P10.3: what is right is read from its text as it was.
func TestReadFromItsText(t *testing.T) {
	r := rand.New(rand.NewPCG(10, 3))
	right := 0
	for range 2000 {
		c := drawnTold(r)
		if _, e := model.Check(api.Index{Packs: c.packs}); e == api.OK && len(c.packs) > 1 {
			right++
		}
		if at, e := model.Roots(c.deps); e != api.OK {
			t.Fatalf("roots that aren't right are drawn: %d, %d", at, e)
		}
		for _, k := range kinds {
			again(t, k, c.only(k))
		}
	}
	if right < 200 {
		t.Errorf("%d right indexes are drawn", right)
	}
}

// P10.3: indexes, roots and pins with what they may have at most.
func TestReadFromGreatTexts(t *testing.T) {
	rows := slices.Repeat([]string{strings.Repeat("a", 255)}, 16)
	v := api.Version{Major: math.MaxInt64, Minor: math.MaxInt64, Patch: math.MaxInt64, Pre: rows, Build: rows}
	deepest := api.Range{Kind: api.RangeEq, V: v}
	for range 32 {
		deepest = api.Range{Kind: api.RangeNot, L: []api.Range{{Kind: api.RangeAnd, L: []api.Range{{Kind: api.RangeAll}, deepest}}}}
	}
	long := strings.Repeat("z", 255)
	c := told{pins: []api.Pin{{Name: long, V: v}}, deps: []api.Dep{{Name: long, R: deepest}, {Name: "b", R: api.Range{Kind: api.RangeOr, L: slices.Repeat([]api.Range{{}}, 1000)}}}}
	for i := range api.MaxNames {
		c.packs = append(c.packs, pack("p"+strconv.Itoa(i), release("1.0.0", needs("x", "*"))))
	}
	c.packs[7].Releases = append(c.packs[7].Releases, api.Release{V: v, Needs: c.deps, Bans: c.deps})
	if w, e := model.Check(api.Index{Packs: c.packs}); e != api.OK {
		t.Fatalf("the index isn't right: %v, %d", w, e)
	}
	for _, k := range kinds {
		again(t, k, c.only(k))
	}
}

// P10.3: a text that is read is told by a text that is read likewise.
func TestTellWhatIsRead(t *testing.T) {
	texts := []string{
		"#\npackage b\n\nversion 1.0.0\nbans x  1.0.0 || (2.0.0)\t\nneeds y >1.0.0 <2.0.0\nbans x *\n#\nneeds y !!1.0.0\npackage a", "package a\npackage a\nversion 1.0.0\nversion 1.0.0\nbans a *\n",
		"root b   ( ( 1.0.0 ) )\n\nroot a 1.0.0,2.0.0!3.0.0||*", "root a " + strings.Repeat("(", 64) + "1.0.0" + strings.Repeat(")", 64), "root a " + strings.Repeat("!", 64) + "1.0.0", "\n#\npin b 1.0.0+01\n\npin b 1.0.0+01\npin a 0.0.0-0",
	}
	for _, k := range kinds {
		for _, s := range append(texts, samples(k)...) {
			if got := k.read([]byte(s)); got.e == api.OK {
				again(t, k, got.told)
			}
		}
	}
	want := "package b\nversion 1.0.0\nneeds y >1.0.0, <2.0.0\nneeds y !! =1.0.0\nbans x =1.0.0 || =2.0.0\nbans x *\npackage a\n"
	if x, _, _ := Index([]byte(texts[0])); IndexText(x) != want {
		t.Errorf("%q is told as %q, want %q", texts[0], IndexText(x), want)
	}
	// What is told is told likewise once more.
	if x, _, e := Index([]byte(want)); IndexText(x) != want || e != api.OK {
		t.Errorf("%q is told as %q", want, IndexText(x))
	}
}

// P1 and R1: a range that nobody read may be nested deeper than calls can be: the room for calls is made small here, since a stack that is too small ends the program.
func TestTextsOfRangesOfAnyDepth(t *testing.T) {
	const levels = 1 << 17
	defer debug.SetMaxStack(debug.SetMaxStack(1 << 20))
	r := expr("*")
	for range levels {
		r = api.Range{Kind: api.RangeNot, L: []api.Range{r}}
	}
	c := told{packs: []api.Pack{pack("a", api.Release{Needs: []api.Dep{{Name: "b", R: r}}, Bans: []api.Dep{{Name: "c", R: r}}})}, deps: []api.Dep{{Name: "b", R: r}}}
	deep := strings.Repeat("!", levels) + "*\n"
	for k, want := range []string{"package a\nversion 0.0.0\nneeds b " + deep + "bans c " + deep, "root b " + deep} {
		got := kind(k).tell(c)
		if got != want {
			t.Errorf("%d: the text has %d bytes, want %d", k, len(got), len(want))
		}
		if a, at := kind(k).read([]byte(got)), strings.Index(got, "!")+64; !a.like(refused(at, api.ErrDeep)) {
			t.Errorf("%d: read as %s, want ErrDeep at %d", k, shown(a), at)
		}
	}
}

// R4: what is handed in is left as it was, and what lies behind its length is neither read nor written.
func TestTextsAreLeftAsTheyWere(t *testing.T) {
	for _, k := range kinds {
		for _, s := range append(samples(k), samples(k)[2]+"#", strings.TrimSuffix(samples(k)[2], "\n"), "x", "package", "root a", "pin a 1.0") {
			want := k.wanted([]byte(s))
			for _, behind := range []string{"", "\n", "0", ".0\n", "x", " x", "\npackage x\nversion 9.9.9\nroot x *\npin x 9.9.9\n", "\xff\x00"} {
				whole := []byte("root a *\n" + s + behind)
				was := string(whole)
				b := whole[9 : 9+len(s)]
				if got := k.read(b); !got.like(want) || string(whole) != was {
					t.Errorf("%d of %q ahead of %q: %s, and it is %q then", k, s, behind, shown(got), whole)
				}
			}
		}
	}
}

// P10.1 and R4: what is read doesn't hang on the text any more.
func TestWhatIsReadIsKept(t *testing.T) {
	for _, k := range kinds {
		for _, s := range samples(k) {
			b := []byte(s)
			got, want := k.read(b), k.wanted([]byte(s))
			other := k.read(b)
			for i := range b {
				b[i] = 'x'
			}
			if !got.like(want) {
				t.Errorf("%d of %q, written over: %s", k, s, shown(got))
			}
			var m, o memory
			m.told(got.told)
			o.told(other.told)
			checkApart(t, s, m, o)
			changed := k.wanted([]byte(s))
			writeOver(&changed.told)
			writeOver(&other.told)
			if !other.like(changed) || !got.like(want) {
				t.Errorf("%d of %q: an answer, written over, changes another list: %s, %s", k, s, shown(other), shown(got))
			}
		}
	}
}

// R4: what is told is left as it was, and what lies behind its lists' lengths is neither read nor written.
func TestWhatIsToldIsLeftAsItWas(t *testing.T) {
	texts := []string{"rc", "1", "b", "z"}
	v := api.Version{Major: 1, Pre: texts[:2], Build: texts[2:3]}
	ranges := []api.Range{{Kind: api.RangeGe, V: v}, {Kind: api.RangeNe, V: v}, {Kind: api.RangeLt, V: v}}
	deps := []api.Dep{{Name: "b", R: api.Range{Kind: api.RangeOr, L: ranges[:2]}}, {Name: "c"}, {Name: "d"}}
	releases := []api.Release{{V: v, Needs: deps[:1], Bans: deps[:2]}, {Yanked: true, Needs: deps[:0]}, {}}
	packs := []api.Pack{{Name: "a", Releases: releases[:2]}, {Name: "b", Releases: releases[:0]}, {Name: "c"}}
	pins := []api.Pin{{Name: "a", V: v}, {Name: "b"}}
	const one = "b >=1.0.0-rc.1+b || !=1.0.0-rc.1+b\n"
	for range 2 {
		if got, want := IndexText(api.Index{Packs: packs[:2]}), "package a\nversion 1.0.0-rc.1+b\nneeds "+one+"bans "+one+"bans c *\nyanked 0.0.0\npackage b\n"; got != want {
			t.Errorf("IndexText = %q, want %q", got, want)
		}
		if got := RootsText(deps[:1]); got != "root "+one {
			t.Errorf("RootsText = %q", got)
		}
		if got := PinsText(pins[:1]); got != "pin a 1.0.0-rc.1+b\n" {
			t.Errorf("PinsText = %q", got)
		}
	}
	if !slices.Equal(texts, []string{"rc", "1", "b", "z"}) || len(ranges[2].L) != 0 || deps[2].Name != "d" || packs[2].Name != "c" || pins[1].Name != "b" || len(releases[2].Needs) != 0 {
		t.Error("what was told is changed")
	}
}

// writeOver writes over all that was read, and adds an element to every list of it.
func writeOver(c *told) {
	for i := range c.packs {
		p := &c.packs[i]
		p.Name += "?"
		for k := range p.Releases {
			r := &p.Releases[k]
			writeOverVersion(&r.V)
			r.Yanked = !r.Yanked
			writeOverDeps(&r.Needs)
			writeOverDeps(&r.Bans)
		}
		p.Releases = append(p.Releases, api.Release{Yanked: true})
	}
	c.packs = append(c.packs, api.Pack{Name: "new"})
	writeOverDeps(&c.deps)
	for i := range c.pins {
		c.pins[i].Name += "?"
		writeOverVersion(&c.pins[i].V)
	}
	c.pins = append(c.pins, api.Pin{Name: "new"})
}

func writeOverDeps(l *[]api.Dep) {
	for i := range *l {
		(*l)[i].Name += "?"
		writeOverRange(&(*l)[i].R)
	}
	*l = append(*l, api.Dep{Name: "new"})
}

func writeOverRange(r *api.Range) {
	r.Kind++
	writeOverVersion(&r.V)
	for i := range r.L {
		writeOverRange(&r.L[i])
	}
	r.L = append(r.L, api.Range{Kind: 12})
}

func writeOverVersion(v *api.Version) {
	v.Patch++
	for _, l := range []*[]string{&v.Pre, &v.Build} {
		for i := range *l {
			(*l)[i] += "?"
		}
		*l = append(*l, "new", "new")
	}
}

// memory is where the lists of an answer lie: of each its first byte, and the one behind its room.
type memory [][2]uintptr

func add[T any](m *memory, l []T) {
	if cap(l) > 0 {
		from := uintptr(unsafe.Pointer(unsafe.SliceData(l)))
		*m = append(*m, [2]uintptr{from, from + uintptr(cap(l))*unsafe.Sizeof(*new(T))})
	}
}

func (m *memory) told(c told) {
	add(m, c.packs)
	for _, p := range c.packs {
		add(m, p.Releases)
		for _, r := range p.Releases {
			m.version(r.V)
			m.deps(r.Needs)
			m.deps(r.Bans)
		}
	}
	m.deps(c.deps)
	add(m, c.pins)
	for _, p := range c.pins {
		m.version(p.V)
	}
}

func (m *memory) deps(l []api.Dep) {
	add(m, l)
	for _, d := range l {
		m.oneRange(d.R)
	}
}

func (m *memory) oneRange(r api.Range) {
	m.version(r.V)
	add(m, r.L)
	for _, one := range r.L {
		m.oneRange(one)
	}
}

func (m *memory) version(v api.Version) {
	add(m, v.Pre)
	add(m, v.Build)
}

// checkApart tells, if two lists of an answer share memory, or one of it and one of another.
func checkApart(t *testing.T, what string, one, other memory) {
	t.Helper()
	for i, a := range one {
		for _, b := range slices.Concat(one[:i], other) {
			if a[0] < b[1] && b[0] < a[1] {
				t.Errorf("%q: lists share memory", what)
			}
		}
	}
}

// P1, P10.2 and P10.3: what seeds draw is told, and read.
func FuzzTell(f *testing.F) {
	f.Add(uint64(10), uint64(2))
	f.Fuzz(func(t *testing.T, a, b uint64) {
		c := drawnTold(rand.New(rand.NewPCG(a, b)))
		for _, k := range kinds {
			again(t, k, c.only(k))
		}
	})
}
