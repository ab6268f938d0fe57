package model

import (
	"math/rand/v2"
	"slices"
	"testing"

	"ferrule/api"
	"ferrule/norm"
)

// P9.3: Release, by hand.
func TestRelease(t *testing.T) {
	x := index(
		pack("b", release("1.0.0", needs("a", "^1.0.0")), release("1.0.0+x", takenBack), release("2.0.0", bans("a", "*")), release("1.0.0", bans("c", "*")), release("1.0.0-rc.1+x")),
		pack("a", release("1.0.0")), pack("b", release("3.0.0"), release("1.0.0", takenBack)), pack("c"), pack("A", release("1.0.0", takenBack)), pack("", api.Release{V: api.Version{Major: 1 << 63, Pre: []string{"", "a.b"}}, Needs: deps(api.Dep{R: api.Range{Kind: 99, L: []api.Range{{Kind: -5}}}})}),
		pack("c", release("1.0.0")),
	)
	for i, c := range []struct {
		name string
		v    api.Version
		want int
	}{
		{"b", version("1.0.0"), 0}, {"b", version("1.0.0+x"), 1}, {"b", version("2.0.0"), 2}, {"b", version("1.0.0-rc.1+x"), 4}, {"b", version("3.0.0"), -1}, {"b", version("1.0.0+y"), -1}, {"b", version("2.0.0+x"), -1}, {"b", version("1.0.0-rc.1"), -1}, {"b", version("1.0.0-rc+x"), -1}, {"b", version("1.0.1"), -1}, {"b", version("1.1.0"), -1}, {"b", version("0.0.0"), -1},
		{"a", version("1.0.0"), 10}, {"a", version("1.0.0+x"), -1}, {"c", version("1.0.0"), -1}, {"d", version("1.0.0"), -1}, {"aa", version("1.0.0"), -1}, {"B", version("1.0.0"), -1}, {"b ", version("1.0.0"), -1}, {"A", version("1.0.0"), 40},
		{"", api.Version{Major: 1 << 63, Pre: []string{"", "a.b"}}, 50}, {"", api.Version{Major: 1 << 63, Pre: []string{"", "a", "b"}}, -1}, {"", version("1.0.0"), -1},
	} {
		got, ok := Release(x, c.name, c.v)
		var want api.Release
		if c.want >= 0 {
			want = x.Packs[c.want/10].Releases[c.want%10]
		}
		if ok != (c.want >= 0) || !likeRelease(got, want) {
			t.Errorf("%d: Release(%q, %v) = %v, %v", i, c.name, c.v, got, ok)
		}
	}
	if got, ok := Release(api.Index{}, "a", version("1.0.0")); ok || !likeRelease(got, api.Release{}) {
		t.Errorf("Release of no packages = %v, %v", got, ok)
	}
}

// P9.4: solutions and others, by hand.
func TestSolvesByHand(t *testing.T) {
	x := index(
		pack("lib", release("2.0.0", takenBack), release("1.0.0"), release("1.0.0+b"), release("1.5.0", bans("old", "<2.0.0")), release("3.0.0-rc", needs("lib", ">=3.0.0-rc"))),
		pack("app", release("1.0.0", needs("lib", "^1.0.0")), release("2.0.0", needs("lib", "*"), needs("gone", "*")), release("3.0.0", needs("app", ">3.0.0")), release("4.0.0", bans("app", "<4.0.0"), needs("app", "4.0.0"))),
		pack("old", release("1.0.0"), release("2.0.0", bans("nobody", "*"))),
		pack("none"),
	)
	for i, c := range []struct {
		roots []api.Dep
		s     []api.Pin
		want  bool
	}{
		// No roots, no pins.
		{nil, nil, true}, {deps(dep("lib", "*")), nil, false}, {deps(dep("none", "*")), nil, false}, {nil, pins(pin("old", "1.0.0")), true}, {nil, pins(pin("lib", "1.0.0"), pin("old", "1.0.0")), true},
		// Roots that are met, and that aren't.
		{deps(dep("lib", "^1.0.0")), pins(pin("lib", "1.0.0")), true}, {deps(dep("lib", "^1.0.0")), pins(pin("lib", "1.0.0+b")), true}, {deps(dep("lib", ">1.0.0")), pins(pin("lib", "1.0.0")), false}, {deps(dep("lib", ">1.0.0")), pins(pin("lib", "1.0.0+b")), false}, {deps(dep("lib", "!*")), pins(pin("lib", "1.0.0")), false},
		{deps(dep("lib", "^1.0.0"), dep("lib", "1.0.0+z"), dep("lib", "!=1.5.0")), pins(pin("lib", "1.0.0")), true}, {deps(dep("lib", "^1.0.0"), dep("lib", "1.5.0")), pins(pin("lib", "1.0.0")), false}, {deps(dep("old", "*"), dep("lib", "*")), pins(pin("old", "1.0.0")), false}, {deps(dep("old", "*"), dep("lib", "*")), pins(pin("lib", "1.0.0"), pin("old", "1.0.0")), true},
		{deps(dep("nobody", "*")), pins(pin("old", "1.0.0")), false},
		// What isn't there, or was taken back, or differs in its build.
		{nil, pins(pin("nobody", "1.0.0")), false}, {nil, pins(pin("none", "1.0.0")), false}, {nil, pins(pin("lib", "1.0.1")), false}, {nil, pins(pin("lib", "2.0.0")), false}, {nil, pins(pin("lib", "1.0.0+c")), false}, {nil, pins(pin("lib", "1.5.0+b")), false}, {nil, pins(pin("old", "1.0.0"), pin("zz", "1.0.0")), false}, {deps(dep("lib", "2.0.0")), pins(pin("lib", "2.0.0")), false},
		// Needs, met or not.
		{nil, pins(pin("app", "1.0.0")), false}, {nil, pins(pin("app", "1.0.0"), pin("lib", "1.0.0")), true}, {nil, pins(pin("app", "1.0.0"), pin("lib", "1.5.0")), true}, {nil, pins(pin("app", "1.0.0"), pin("lib", "3.0.0-rc")), false}, {nil, pins(pin("app", "2.0.0"), pin("lib", "1.0.0")), false}, {nil, pins(pin("app", "3.0.0")), false}, {nil, pins(pin("app", "4.0.0")), true}, {nil, pins(pin("lib", "3.0.0-rc")), true},
		// Bans.
		{nil, pins(pin("lib", "1.5.0")), true}, {nil, pins(pin("lib", "1.5.0"), pin("old", "1.0.0")), false}, {nil, pins(pin("lib", "1.5.0"), pin("old", "2.0.0")), true}, {nil, pins(pin("lib", "1.0.0"), pin("old", "1.0.0")), true},
		// Pins that don't rise, or are twice.
		{nil, pins(pin("lib", "1.0.0"), pin("app", "1.0.0")), false}, {nil, pins(pin("old", "1.0.0"), pin("lib", "1.0.0")), false}, {nil, pins(pin("lib", "1.0.0"), pin("lib", "1.0.0")), false}, {nil, pins(pin("lib", "1.0.0"), pin("lib", "1.5.0")), false}, {nil, pins(pin("app", "1.0.0"), pin("old", "1.0.0"), pin("lib", "1.0.0")), false}, {nil, pins(pin("app", "1.0.0"), pin("lib", "1.0.0"), pin("old", "1.0.0")), true},
		// Wrong roots, and wrong pins.
		{deps(dep("lib", "*"), api.Dep{Name: "Lib"}), pins(pin("lib", "1.0.0")), false}, {deps(api.Dep{Name: "lib", R: api.Range{Kind: 99}}), pins(pin("lib", "1.0.0")), false}, {deps(api.Dep{Name: "lib", R: nested(expr("*"), 66, not)}), pins(pin("lib", "1.0.0")), false}, {nil, pins(api.Pin{Name: "", V: version("1.0.0")}), false}, {nil, pins(api.Pin{Name: "lib", V: api.Version{Major: 1, Pre: []string{""}}}), false},
	} {
		if got := Solves(x, c.roots, c.s); got != c.want {
			t.Errorf("%d: Solves(%v, %v) = %v", i, c.roots, c.s, got)
		}
		if got := Solves(Plain(x), c.roots, c.s); got != c.want {
			t.Errorf("%d: of the plain index Solves(%v, %v) = %v", i, c.roots, c.s, got)
		}
	}
	if !Solves(api.Index{}, nil, nil) || Solves(api.Index{}, deps(dep("a", "*")), nil) || Solves(api.Index{}, nil, pins(pin("a", "1.0.0"))) {
		t.Error("an index without packages")
	}
}

// P9.4: an index that isn't right is solved by nothing, wherever it is wrong.
func TestNothingSolvesWrongIndexes(t *testing.T) {
	for i, f := range flaws() {
		x := sound()
		x.Packs = append(x.Packs, pack("z", release("1.0.0")))
		if !Solves(x, deps(dep("z", "*")), pins(pin("z", "1.0.0"))) || !Solves(x, nil, nil) {
			t.Fatal("what is sound isn't solved")
		}
		f.make(&x)
		if Solves(x, deps(dep("z", "*")), pins(pin("z", "1.0.0"))) || Solves(x, nil, nil) {
			t.Errorf("flaw %d: it is solved", i)
		}
	}
	if Solves(api.Index{Packs: make([]api.Pack, api.MaxNames+1)}, nil, nil) {
		t.Error("too many packages are solved")
	}
}

// P9.4: wrong names, versions and ranges, among what is right.
func TestWrongRootsAndPins(t *testing.T) {
	x := index(pack("a", release("1.0.0")), pack("b", release("1.0.0")))
	row := pins(pin("a", "1.0.0"), pin("b", "1.0.0"))
	l := deps(dep("a", "*"), dep("b", "^1.0.0"))
	if !Solves(x, l, row) {
		t.Fatal("what is right isn't solved")
	}
	for _, s := range wrongNames() {
		if Solves(x, append(slices.Clone(l), api.Dep{Name: s}), row) || Solves(x, l, slices.Insert(slices.Clone(row), 0, api.Pin{Name: s, V: version("1.0.0")})) {
			t.Errorf("%.40q is a name", s)
		}
		wrong := index(pack(s, release("1.0.0")))
		if Solves(wrong, nil, nil) || Solves(wrong, deps(api.Dep{Name: s}), pins(api.Pin{Name: s, V: version("1.0.0")})) {
			t.Errorf("%.40q is a name", s)
		}
	}
	for i, r := range wrongRanges() {
		if Solves(x, append(slices.Clone(l), api.Dep{Name: "a", R: r}), row) {
			t.Errorf("range %d is right", i)
		}
	}
	for i, v := range wrongVersions() {
		p := api.Pin{Name: "a", V: v}
		if Solves(x, nil, pins(p)) || Solves(index(pack("a", api.Release{V: v})), nil, pins(p)) {
			t.Errorf("version %d is right", i)
		}
	}
}

// The second way of telling solutions: packages, versions and ranges are numbers, and which versions a range has is told by hand.

var (
	packTexts    = [...]string{"a", "b", "c"}
	versionTexts = [...]string{"1.0.0-rc", "1.0.0", "1.0.0+b", "2.0.0"}
	// Beside each range, which of the versions it has: 1, or not: 0.
	rangeTexts = [...]struct{ text, has string }{
		{"*", "1111"}, {"!*", "0000"}, {"1.0.0", "0110"}, {"!=1.0.0", "1001"}, {"^1.0.0", "0110"}, {">1.0.0", "0001"}, {"<1.0.0", "1000"}, {"2.0.0 || 1.0.0-rc", "1001"}, {">=1.0.0, <=2.0.0", "0111"}, {"!(>=1.0.0+b)", "1000"},
	}
)

// wish is a need, a ban or a root: a package and a range, by their numbers.
type wish struct{ pack, r int }

// issue is a release: the version's number, and what belongs to it.
type issue struct {
	v           int
	yanked      bool
	needs, bans []wish
}

// system is the releases of each package, and roots.
type system struct {
	packs [len(packTexts)][]issue
	roots []wish
}

// row is which version each package has; -1: none.
type row [len(packTexts)]int

func (l wish) met(s row) bool { return s[l.pack] >= 0 && rangeTexts[l.r].has[s[l.pack]] == '1' }

// wrong tells whether a release bans itself.
func (y system) wrong() bool {
	for i, l := range y.packs {
		for _, one := range l {
			for _, b := range one.bans {
				if b.pack == i && rangeTexts[b.r].has[one.v] == '1' {
					return true
				}
			}
		}
	}
	return false
}

func (y system) solvedBy(s row) bool {
	if y.wrong() {
		return false
	}
	for _, l := range y.roots {
		if !l.met(s) {
			return false
		}
	}
	for i, v := range s {
		if v < 0 {
			continue
		}
		at := slices.IndexFunc(y.packs[i], func(one issue) bool { return one.v == v })
		if at < 0 || y.packs[i][at].yanked {
			return false
		}
		for _, l := range y.packs[i][at].needs {
			if !l.met(s) {
				return false
			}
		}
		for _, l := range y.packs[i][at].bans {
			if l.met(s) {
				return false
			}
		}
	}
	return true
}

func wishes(l []wish) []api.Dep {
	return each(l, func(w wish) api.Dep { return dep(packTexts[w.pack], rangeTexts[w.r].text) })
}

// index is a system's index; its packages stand in an order of three.
func (y system) index(order []int) api.Index {
	var x api.Index
	for _, i := range order {
		x.Packs = append(x.Packs, pack(packTexts[i], each(y.packs[i], func(one issue) api.Release {
			return api.Release{V: version(versionTexts[one.v]), Yanked: one.yanked, Needs: wishes(one.needs), Bans: wishes(one.bans)}
		})...))
	}
	return x
}

// pins is a row's pins.
func (s row) pins() []api.Pin {
	var l []api.Pin
	for i, v := range s {
		if v >= 0 {
			l = append(l, pin(packTexts[i], versionTexts[v]))
		}
	}
	return l
}

// rows is all rows that there can be.
func rows() []row {
	var all []row
	for a := -1; a < len(versionTexts); a++ {
		for b := -1; b < len(versionTexts); b++ {
			for c := -1; c < len(versionTexts); c++ {
				all = append(all, row{a, b, c})
			}
		}
	}
	return all
}

// drawnWishes is up to n wishes.
func drawnWishes(r *rand.Rand, n int) []wish {
	var l []wish
	for range r.IntN(n + 1) {
		l = append(l, wish{r.IntN(len(packTexts)), r.IntN(len(rangeTexts))})
	}
	return l
}

func drawnSystem(r *rand.Rand) system {
	var y system
	for i := range y.packs {
		for _, v := range r.Perm(len(versionTexts))[:r.IntN(len(versionTexts)+1)] {
			y.packs[i] = append(y.packs[i], issue{v, r.IntN(6) == 0, drawnWishes(r, 2), drawnWishes(r, 1)})
		}
	}
	y.roots = drawnWishes(r, 2)
	return y
}

// P9.4: drawn indexes and roots, and all pins.
func TestSolvesOfDrawnSystems(t *testing.T) {
	r := rand.New(rand.NewPCG(9, 4))
	all := rows()
	solved, wrong := 0, 0
	for range 1500 {
		y := drawnSystem(r)
		x, l := y.index(r.Perm(len(packTexts))), wishes(y.roots)
		if _, e := Check(x); (e == api.ErrConflict) != y.wrong() || e != api.OK && e != api.ErrConflict {
			t.Fatalf("Check(%v): %d", x, e)
		}
		if y.wrong() {
			wrong++
		}
		for _, s := range all {
			got, want := Solves(x, l, s.pins()), y.solvedBy(s)
			if got != want {
				t.Fatalf("Solves(%v, %v, %v) = %v", x, l, s.pins(), got)
			}
			if got {
				solved++
			}
		}
	}
	if solved < 1000 || wrong < 100 || wrong > 1000 {
		t.Errorf("%d solutions, and %d wrong indexes, are too few or too many", solved, wrong)
	}
}

// P9.4: the pins of a solution, in any other order, are none.
func TestSolutionsRise(t *testing.T) {
	x := index(pack("a", release("1.0.0")), pack("b", release("1.0.0")), pack("c", release("1.0.0")), pack("d", release("1.0.0")))
	l := deps(dep("a", "*"), dep("c", "*"))
	for _, order := range orders(4) {
		var s []api.Pin
		for _, i := range order {
			s = append(s, pin(x.Packs[i].Name, "1.0.0"))
		}
		if got := Solves(x, l, s); got != slices.IsSorted(order) {
			t.Errorf("%v: Solves = %v", order, got)
		}
	}
}

// without is a list without the element at a place.
func without[T any](l []T, at int) []T { return slices.Delete(slices.Clone(l), at, at+1) }

// P9.5: Plain of a right index is right, and solved by the same; what solves roots solves fewer of them, and fewer needs.
func TestFewerRootsAndNeeds(t *testing.T) {
	r := rand.New(rand.NewPCG(9, 5))
	all := rows()
	times := 0
	for range 600 {
		y := drawnSystem(r)
		x, l := y.index(r.Perm(len(packTexts))), wishes(y.roots)
		if y.wrong() {
			continue
		}
		plain := Plain(x)
		if got := check(plain); got != (checked{nowhere(), api.OK}) {
			t.Fatalf("Plain(%v) isn't right: %v", x, got)
		}
		for _, s := range all {
			solves := Solves(x, l, s.pins())
			if Solves(plain, l, s.pins()) != solves {
				t.Fatalf("%v: plain it is solved otherwise by %v", x, s.pins())
			}
			if !solves {
				continue
			}
			times++
			for i := range l {
				if !Solves(x, without(l, i), s.pins()) {
					t.Fatalf("%v, %v: %v doesn't solve fewer roots", x, l, s.pins())
				}
			}
			checkFewerNeeds(t, x, l, s.pins())
		}
	}
	if times < 300 {
		t.Errorf("%d solutions are too few", times)
	}
}

func checkFewerNeeds(t *testing.T, x api.Index, l []api.Dep, s []api.Pin) {
	t.Helper()
	for i, p := range x.Packs {
		for j, one := range p.Releases {
			for k := range one.Needs {
				fewer := ownIndex(x)
				fewer.Packs[i].Releases[j].Needs = without(one.Needs, k)
				if !Solves(fewer, l, s) {
					t.Fatalf("%v, %v: %v doesn't solve fewer needs", x, l, s)
				}
			}
		}
	}
}

// P9.4: a great index, all of whose packages are pinned and need the next one.
func TestSolvesAGreatIndex(t *testing.T) {
	var x api.Index
	var s []api.Pin
	name := func(i int) string {
		return string([]byte{'p', '0' + byte(i/1000), '0' + byte(i/100%10), '0' + byte(i/10%10), '0' + byte(i%10)})
	}
	for i := range api.MaxNames {
		next := name((i + 1) % api.MaxNames)
		x.Packs = append(x.Packs, pack(name(i), release("1.0.0", needs(next, "*")), release("2.0.0", needs(next, "^1.0.0"), bans(next, "2.0.0"))))
		s = append(s, pin(name(i), "1.0.0"))
	}
	l := deps(dep(name(0), "*"))
	if !Solves(x, l, s) || Solves(x, l, s[:len(s)-1]) || Solves(x, l, s[1:]) {
		t.Error("a great index isn't solved")
	}
	s[7].V = version("2.0.0")
	if !Solves(x, l, s) {
		t.Error("one pin of 2.0.0: it isn't solved")
	}
	s[8].V = version("2.0.0")
	if Solves(x, l, s) {
		t.Error("two pins of 2.0.0, side by side: it is solved")
	}
}

// The chapter's example: nothing solves the root a.
func TestExample(t *testing.T) {
	x := index(pack("a", release("1.0.0", needs("b", "*"))))
	for _, s := range [][]api.Pin{nil, pins(pin("a", "1.0.0")), pins(pin("b", "1.0.0")), pins(pin("a", "1.0.0"), pin("b", "1.0.0"))} {
		if Solves(x, deps(dep("a", "*")), s) {
			t.Errorf("%v solves it", s)
		}
	}
	if got := check(x); got != (checked{nowhere(), api.OK}) {
		t.Errorf("Check = %v", got)
	}
}

// P1, P9.3 to P9.5: whatever index, roots and pins there are.
func FuzzSolves(f *testing.F) {
	f.Add([]byte{0, 1, 2, 3, 4, 5, 6, 7, 8, 9})
	f.Add([]byte{16, 33, 50, 16, 33, 50, 51, 52, 53, 160, 161})
	f.Add([]byte{32, 17, 18, 19, 17, 34, 51, 68, 17, 82, 35})
	f.Fuzz(func(t *testing.T, b []byte) {
		if len(b) > 300 {
			return
		}
		checkDrawn(t, b)
	})
}

// checkDrawn holds what is told of an index, roots and pins against the words of the chapter; how it was: which of them were right, and solved.
func checkDrawn(t *testing.T, b []byte) (right, solved bool) {
	t.Helper()
	x, l, s := drawn(b)
	was := ownIndex(x)
	plain := Plain(x)
	right = wantedCheck(x).e == api.OK && wantedRoots(l).e == api.OK && wantedPins(s).e == api.OK && slices.IsSortedFunc(s, func(a, b api.Pin) int { return slices.Compare([]byte(a.Name), []byte(b.Name)) })
	solved = Solves(x, l, s)
	if solved != (right && solvedAsWritten(x, l, s)) || Solves(plain, l, s) != (solved && wantedCheck(plain).e == api.OK) {
		t.Fatalf("Solves(%v, %v, %v) = %v", x, l, s, solved)
	}
	if (wantedCheck(plain).e == api.OK) != (wantedCheck(x).e == api.OK) || !IsPlain(plain) || IsPlain(x) != likeIndex(x, plain) || !likeIndex(x, was) {
		t.Fatalf("Plain(%v) = %v", was, plain)
	}
	for _, p := range s {
		got, ok := Release(x, p.Name, p.V)
		again, still := Release(plain, p.Name, p.V)
		if ok && !likeVersion(got.V, p.V) || !ok && !likeRelease(got, api.Release{}) || ok != still && right || right && !likeRelease(got, again) {
			t.Fatalf("Release(%v, %v) = %v, %v", x, p, got, ok)
		}
	}
	return right, solved
}

// solvedAsWritten is what the chapter's words say of what is right, pin by pin.
func solvedAsWritten(x api.Index, roots []api.Dep, s []api.Pin) bool {
	met := 0
	wanted := slices.Clone(roots)
	var banned []api.Dep
	there := 0
	for _, p := range s {
		for _, o := range x.Packs {
			for _, r := range o.Releases {
				if o.Name == p.Name && likeVersion(r.V, p.V) && !r.Yanked {
					there++
					wanted, banned = append(wanted, r.Needs...), append(banned, r.Bans...)
				}
			}
		}
	}
	for _, p := range s {
		for _, d := range banned {
			if d.Name == p.Name && norm.Has(d.R, p.V) {
				return false
			}
		}
		for _, d := range wanted {
			if d.Name == p.Name && norm.Has(d.R, p.V) {
				met++
			}
		}
	}
	return there == len(s) && met == len(wanted)
}

// P1, P9.3 to P9.5: what drawn bytes tell, mostly right.
func TestDrawnBytes(t *testing.T) {
	r := rand.New(rand.NewPCG(9, 1))
	rights, solves := 0, 0
	for range 20000 {
		b := make([]byte, r.IntN(30))
		for i := range b {
			b[i] = byte(r.Uint32())
		}
		if x, _, _ := drawn(b); check(x) != wantedCheck(x) {
			t.Fatalf("Check(%v) = %v, want %v", x, check(x), wantedCheck(x))
		}
		right, solved := checkDrawn(t, b)
		if right {
			rights++
		}
		if solved {
			solves++
		}
	}
	if rights < 1000 || solves < 300 || rights-solves < 300 {
		t.Errorf("%d are right, %d solved", rights, solves)
	}
}
