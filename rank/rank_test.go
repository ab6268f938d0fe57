package rank

import (
	"fmt"
	"math"
	"math/rand/v2"
	"runtime/debug"
	"slices"
	"strconv"
	"strings"
	"testing"

	"ferrule/api"
	"ferrule/model"
	"ferrule/rangeexpr"
	"ferrule/semver"
)

// most is the greatest number that is held.
const most = "9223372036854775807"

func version(s string) api.Version {
	v, _, e := semver.Read(s)
	if e != api.OK {
		panic(s + " isn't a version")
	}
	return v
}

func expr(s string) api.Range {
	r, _, e := rangeexpr.Read(s)
	if e != api.OK {
		panic(s + " isn't an expression")
	}
	return r
}

func dep(name, s string) api.Dep      { return api.Dep{Name: name, R: expr(s)} }
func not(r api.Range) api.Range       { return api.Range{Kind: api.RangeNot, L: []api.Range{r}} }
func indexOf(l ...api.Pack) api.Index { return api.Index{Packs: l} }
func rel(s string, l ...edit) api.Release {
	r := api.Release{V: version(s)}
	for _, change := range l {
		change(&r)
	}
	return r
}
func packOf(name string, l ...api.Release) api.Pack { return api.Pack{Name: name, Releases: l} }

// published is a package with releases of some versions that need and ban nothing; those with a ! behind them are taken back.
func published(name string, versions ...string) api.Pack {
	p := api.Pack{Name: name}
	for _, s := range versions {
		text, yanked := strings.CutSuffix(s, "!")
		p.Releases = append(p.Releases, api.Release{V: version(text), Yanked: yanked})
	}
	return p
}

// edit is a change of a release.
type edit func(r *api.Release)

func needs(name, s string) edit {
	return func(r *api.Release) { r.Needs = append(r.Needs, dep(name, s)) }
}

func bans(name, s string) edit {
	return func(r *api.Release) { r.Bans = append(r.Bans, dep(name, s)) }
}

func takenBack(r *api.Release) { r.Yanked = true }

func likeVersion(a, b api.Version) bool {
	return a.Major == b.Major && a.Minor == b.Minor && a.Patch == b.Patch && slices.Equal(a.Pre, b.Pre) && slices.Equal(a.Build, b.Build)
}

// likeRange compares ranges field by field, as all of these do, so that nothing that is tested is taken for granted.
func likeRange(a, b api.Range) bool {
	return a.Kind == b.Kind && likeVersion(a.V, b.V) && slices.EqualFunc(a.L, b.L, likeRange)
}

func likeDep(a, b api.Dep) bool { return a.Name == b.Name && likeRange(a.R, b.R) }

func likeRelease(a, b api.Release) bool {
	return likeVersion(a.V, b.V) && a.Yanked == b.Yanked && slices.EqualFunc(a.Needs, b.Needs, likeDep) && slices.EqualFunc(a.Bans, b.Bans, likeDep)
}

func likePack(a, b api.Pack) bool {
	return a.Name == b.Name && slices.EqualFunc(a.Releases, b.Releases, likeRelease)
}

func likeIndex(a, b api.Index) bool { return slices.EqualFunc(a.Packs, b.Packs, likePack) }

// each is a list in memory of its own, of what is made of another one's elements.
func each[T, U any](l []T, of func(T) U) []U {
	var c []U
	for _, one := range l {
		c = append(c, of(one))
	}
	return c
}

func text(s string) string { return s }

func ownVersion(v api.Version) api.Version {
	v.Pre, v.Build = each(v.Pre, text), each(v.Build, text)
	return v
}

func ownRange(r api.Range) api.Range {
	r.V, r.L = ownVersion(r.V), each(r.L, ownRange)
	return r
}

func ownDep(d api.Dep) api.Dep {
	d.R = ownRange(d.R)
	return d
}

func ownRelease(r api.Release) api.Release {
	r.V, r.Needs, r.Bans = ownVersion(r.V), each(r.Needs, ownDep), each(r.Bans, ownDep)
	return r
}

func ownPack(p api.Pack) api.Pack {
	p.Releases = each(p.Releases, ownRelease)
	return p
}

func ownIndex(x api.Index) api.Index { return api.Index{Packs: each(x.Packs, ownPack)} }

// whole is what stands in something.
func whole(x any) string { return fmt.Sprint(x) }

// shown is what stands in something, as far as it is short enough to be read.
func shown(x any) string {
	s := whole(x)
	return s[:min(len(s), 1000)]
}

// nested is a range within n others.
func nested(r api.Range, n int) api.Range {
	for range n {
		r = not(r)
	}
	return r
}

// namesRising is names as they stand.
func namesRising() []string {
	return []string{"0", "00", "1", "10", "2", "a", "a-", "a-z", "a.", "a0", "a_", "aa", "ab", "app", "b", "ba", "lib", "lib-x", "z", strings.Repeat("z", api.MaxIdent-1), strings.Repeat("z", api.MaxIdent)}
}

// versionsRising is versions in the full order; those of one row stand alike by precedence.
func versionsRising() [][]string {
	return [][]string{
		{"0.0.0-0", "0.0.0-0+0"}, {"0.0.0", "0.0.0+0"}, {"0.0.1-a"}, {"0.0.1"}, {"0.0.2"}, {"0.0.10"}, {"0.1.0-0"}, {"0.1.0"}, {"0.1.9"}, {"0.2.0-rc"}, {"0.2.0"}, {"0.10.0"},
		{"1.0.0-0"}, {"1.0.0-2"}, {"1.0.0-10"}, {"1.0.0-A"}, {"1.0.0-a", "1.0.0-a+b"}, {"1.0.0-a.1"}, {"1.0.0-rc"}, {"1.0.0-rc.2", "1.0.0-rc.2+1", "1.0.0-rc.2+2"}, {"1.0.0-rc.10"},
		{"1.0.0", "1.0.0+0", "1.0.0+1", "1.0.0+01", "1.0.0+2", "1.0.0+2.0", "1.0.0+10", "1.0.0+-", "1.0.0+A", "1.0.0+a", "1.0.0+a.0", "1.0.0+b"},
		{"1.0.1-0"}, {"1.0.1"}, {"1.2.0", "1.2.0+b"}, {"1.10.0-rc"}, {"1.10.0"}, {"2.0.0-0"}, {"2.0.0-rc"}, {"2.0.0", "2.0.0+b"}, {"10.0.0"}, {most + ".0.0"}, {most + "." + most + "." + most},
	}
}

// wrongVersions are versions that aren't right.
func wrongVersions() []api.Version {
	long := strings.Repeat("a", api.MaxIdent+1)
	return []api.Version{
		{Major: 1 << 63}, {Minor: math.MaxUint64}, {Patch: 1 << 63}, {Pre: []string{""}}, {Major: 1, Pre: []string{"02"}}, {Pre: []string{"a", "\u00e9"}}, {Pre: []string{long}}, {Major: 1, Pre: make([]string, 17)},
		{Pre: slices.Repeat([]string{"a"}, 17)}, {Major: 1, Build: []string{""}}, {Build: []string{"a.b"}}, {Major: 1, Build: []string{"+"}}, {Build: []string{long}}, {Build: slices.Repeat([]string{"a"}, 17)}, {Major: 1, Pre: []string{"a"}, Build: []string{"b", ""}},
	}
}

// wrongRanges are ranges that aren't right, some of them with all that a right one has beside.
func wrongRanges() []api.Range {
	one := expr("1.0.0")
	l := []api.Range{
		{Kind: -1}, {Kind: 12}, {Kind: math.MaxInt}, {Kind: math.MinInt}, {Kind: 12, L: []api.Range{one, one}}, {V: version("1.0.0")}, {L: []api.Range{one}}, {Kind: api.RangeEq, V: version("1.0.0"), L: []api.Range{one}},
		{Kind: api.RangeAnd}, {Kind: api.RangeOr, L: []api.Range{one}}, {Kind: api.RangeNot}, {Kind: api.RangeNot, L: []api.Range{one, one}}, {Kind: api.RangeOr, V: version("1.0.0"), L: []api.Range{one, one}},
		{Kind: api.RangeOr, L: []api.Range{expr("*"), {Kind: 77}}}, not(api.Range{Kind: 77}), nested(one, api.MaxDeep+1),
	}
	for i, v := range wrongVersions() {
		l = append(l, api.Range{Kind: api.RangeGe + i%8, V: v})
	}
	return l
}

// The second way of numbering and ranking: packages are put in one heap for each name, and their releases in one for each version, and the heaps are laid behind one another.

func wantedReleases(l []api.Release) []api.Release {
	heaps := map[string][]api.Release{}
	for _, r := range l {
		s := semver.Text(r.V)
		heaps[s] = append(heaps[s], ownRelease(r))
	}
	var all []api.Release
	for _, s := range slices.Concat(versionsRising()...) {
		all = append(all, heaps[s]...)
	}
	if len(all) != len(l) {
		panic("a version is unknown")
	}
	return all
}

func wantedPacks(x api.Index) []api.Pack {
	var all []api.Pack
	for _, s := range namesRising() {
		for _, p := range x.Packs {
			if p.Name == s {
				all = append(all, packOf(s, wantedReleases(p.Releases)...))
			}
		}
	}
	if len(all) != len(x.Packs) {
		panic("a name is unknown")
	}
	return all
}

// numbers are the numbers of n things, and some that none has.
func numbers(n int) []int {
	l := []int{math.MinInt, math.MinInt32, -n - 1, -n, -2, -1, n, n + 1, 2 * n, math.MaxInt32, math.MaxInt, math.MaxInt - n}
	for i := range n {
		l = append(l, i)
	}
	return l
}

// got is what a call tells beside a bool.
type got[T any] struct {
	what T
	ok   bool
}

func told[T any](what T, ok bool) got[T] { return got[T]{what, ok} }

// checkTable holds the table of a right index against the second way.
func checkTable(t *testing.T, x api.Index) *Table {
	t.Helper()
	was, want := ownIndex(x), wantedPacks(x)
	y := New(x)
	if y == nil {
		t.Fatalf("New(%s) = nil", shown(was))
	}
	if n := y.Len(); n != len(want) {
		t.Fatalf("%s: Len = %d", shown(was), n)
	}
	if all := y.Index(); !likeIndex(all, indexOf(want...)) {
		t.Fatalf("%s: Index = %s, want %s", shown(was), shown(all), shown(want))
	}
	checkNames(t, y, want)
	for _, p := range numbers(len(want)) {
		var own api.Pack
		if p >= 0 && p < len(want) {
			own = want[p]
		}
		checkPack(t, y, p, own)
	}
	if !likeIndex(x, was) {
		t.Fatalf("%s is changed: %s", shown(was), shown(x))
	}
	return y
}

// checkNames asks for all names, those that there are and others.
func checkNames(t *testing.T, y *Table, want []api.Pack) {
	t.Helper()
	for _, s := range slices.Concat(namesRising(), []string{"", "-", "A", "B", "a\x00", "a ", " a", "z\n", "lib-", "lib-xx", "\xff", strings.Repeat("z", api.MaxIdent+1)}) {
		at := slices.IndexFunc(want, func(p api.Pack) bool { return p.Name == s })
		if p, ok := y.Find(s); ok != (at >= 0) || p != max(at, 0) {
			t.Errorf("%s: Find(%q) = %d, %v", shown(want), s, p, ok)
		}
	}
}

// checkPack asks for all that a number has, whose package that is; of one that there isn't that is the zero one.
func checkPack(t *testing.T, y *Table, p int, own api.Pack) {
	t.Helper()
	if s, n := y.Name(p), y.Size(p); s != own.Name || n != len(own.Releases) {
		t.Errorf("%d: Name = %q, Size = %d, want %s", p, s, n, shown(own))
	}
	for _, k := range numbers(len(own.Releases)) {
		var want got[api.Release]
		if k >= 0 && k < len(own.Releases) {
			want = told(own.Releases[k], true)
		}
		if r := told(y.Release(p, k)); r.ok != want.ok || !likeRelease(r.what, want.what) {
			t.Errorf("Release(%d, %d) = %s, want %s", p, k, shown(r), shown(want))
		}
		if open := y.Open(p, k); open != (want.ok && !want.what.Yanked) {
			t.Errorf("Open(%d, %d) = %v of %s", p, k, open, shown(want))
		}
	}
	for _, v := range slices.Concat(each(slices.Concat(versionsRising()...), version), wrongVersions()) {
		at := slices.IndexFunc(own.Releases, func(r api.Release) bool { return likeVersion(r.V, v) })
		if k := told(y.Rank(p, v)); k != told(max(at, 0), at >= 0) {
			t.Errorf("Rank(%d, %s) = %v, want %d of %s", p, shown(v), k, at, shown(own))
		}
	}
}

// P11.1: tables of indexes without packages, and of packages without releases.
func TestTablesOfNothing(t *testing.T) {
	for _, x := range []api.Index{{}, indexOf(), {Packs: make([]api.Pack, 0, 3)}, indexOf(packOf("a")), indexOf(packOf("b", []api.Release{}...), packOf("a")), indexOf(packOf("a"), published("b", "1.0.0"), packOf("ba"))} {
		checkTable(t, x)
	}
	y := New(api.Index{})
	if y == nil || y.Len() != 0 || y.Name(0) != "" || y.Size(0) != 0 || y.Open(0, 0) || len(y.Runs(0, api.Range{})) != 0 || len(y.Index().Packs) != 0 {
		t.Error("there is something in a table of nothing")
	}
}

// P11.1: a table by hand.
func TestTableByHand(t *testing.T) {
	full := rel("1.0.0+b", needs("a", "^1.0.0 || 2.0.0"), needs("x", "*"), bans("b", ">1.0.0"), takenBack)
	x := indexOf(packOf("b", rel("2.0.0"), full, rel("1.0.0"), rel("1.0.0-rc.10"), rel("1.0.0-rc.2", takenBack)), packOf("a-", rel("0.0.0-0")), packOf("a"))
	y := checkTable(t, x)
	for p, s := range []string{"a", "a-", "b", ""} {
		if y.Name(p) != s {
			t.Errorf("Name(%d) = %q", p, y.Name(p))
		}
	}
	for name, want := range map[string]got[int]{"a": {0, true}, "a-": {1, true}, "b": {2, true}, "x": {}, "": {}} {
		if p := told(y.Find(name)); p != want {
			t.Errorf("Find(%q) = %v", name, p)
		}
	}
	for p, n := range []int{0, 1, 5, 0} {
		if y.Size(p) != n {
			t.Errorf("Size(%d) = %d", p, y.Size(p))
		}
	}
	for k, s := range []string{"1.0.0-rc.2", "1.0.0-rc.10", "1.0.0", "1.0.0+b", "2.0.0"} {
		if at := told(y.Rank(2, version(s))); at != told(k, true) {
			t.Errorf("Rank(2, %s) = %v", s, at)
		}
		if y.Open(2, k) != (k != 0 && k != 3) {
			t.Errorf("Open(2, %d) = %v", k, y.Open(2, k))
		}
	}
	if r, ok := y.Release(2, 3); !ok || !likeRelease(r, full) {
		t.Errorf("Release(2, 3) = %v, %v", r, ok)
	}
	// What another package has, and what differs in the build alone, or in what stands ahead of release alone.
	for _, s := range []string{"0.0.0-0", "1.0.0+a", "1.0.0+b.0", "1.0.0-rc.2+b", "2.0.0+b", "1.0.0-rc", "1.0.0-rc.3", "2.0.0-0", "2.0.0-rc", "1.0.1"} {
		if at := told(y.Rank(2, version(s))); at != (got[int]{}) {
			t.Errorf("Rank(2, %s) = %v", s, at)
		}
	}
}

// P11.1, P11.3: ranks stand as versions do, each two of them in either order.
func TestEachTwoVersions(t *testing.T) {
	all := slices.Concat(versionsRising()...)
	for i, a := range all {
		for k, b := range all {
			if i == k {
				continue
			}
			y := New(indexOf(published("z", a), published("a", a, b)))
			if got, other := told(y.Rank(0, version(a))), told(y.Rank(0, version(b))); i < k != (got.what < other.what) || !got.ok || !other.ok || got.what+other.what != 1 {
				t.Fatalf("%s: rank %v; %s: rank %v", a, got, b, other)
			}
			if got, other := told(y.Rank(1, version(a))), told(y.Rank(1, version(b))); got != told(0, true) || other != told(0, false) {
				t.Fatalf("%s alone: %v, %v", a, got, other)
			}
		}
	}
}

// P11.1: packages' numbers stand as their names do, each two of them in either order.
func TestEachTwoNames(t *testing.T) {
	all := namesRising()
	for i, a := range all {
		for k, b := range all {
			if i == k {
				continue
			}
			y := New(indexOf(published(a, "1.0.0"), published(b, "2.0.0", "3.0.0")))
			p, q := told(y.Find(a)), told(y.Find(b))
			if !p.ok || !q.ok || i < k != (p.what < q.what) || y.Name(p.what) != a || y.Name(q.what) != b || y.Size(p.what) != 1 || y.Size(q.what) != 2 {
				t.Fatalf("%q: %v, %q: %v", a, p, b, q)
			}
		}
	}
}

// orders is all orders of the numbers below n.
func orders(n int) [][]int {
	if n == 0 {
		return [][]int{nil}
	}
	var all [][]int
	for _, l := range orders(n - 1) {
		for at := range n {
			all = append(all, slices.Insert(slices.Clone(l), at, n-1))
		}
	}
	return all
}

// P11.1: packages and releases in all orders.
func TestAllOrders(t *testing.T) {
	packs := []api.Pack{packOf("a"), published("a-", "1.0.0", "0.0.1!"), published("aa", "2.0.0"), published("lib", "1.0.0!")}
	releases := []api.Release{rel("1.0.0-rc.2"), rel("1.0.0-rc.10", takenBack), rel("1.0.0", needs("a", "*")), rel("1.0.0+b", bans("aa", "1.0.0"))}
	for _, order := range orders(4) {
		x, p := indexOf(), packOf("b")
		for _, i := range order {
			x.Packs, p.Releases = append(x.Packs, packs[i]), append(p.Releases, releases[i])
		}
		checkTable(t, x)
		checkTable(t, indexOf(p))
		checkTable(t, indexOf(packs[3], p, packs[0]))
	}
}

// P11.1: releases that are taken back: each choice of four.
func TestTakenBack(t *testing.T) {
	for choice := range 16 {
		l := []string{"1.0.0", "0.0.1", "1.0.0-rc", "1.0.0+b"}
		ranks := []int{2, 0, 1, 3}
		for i := range l {
			if choice>>i&1 == 1 {
				l[i] += "!"
			}
		}
		y := checkTable(t, indexOf(published("z", "0.0.1"), published("a", l...), published("b", "2.0.0!")))
		for i, k := range ranks {
			if want := choice>>i&1 == 0; y.Open(0, k) != want {
				t.Errorf("choice %d: Open(0, %d) = %v", choice, k, !want)
			}
		}
	}
}

// P11.2: the plain index, of what was in order already and of what was in none.
func TestIndex(t *testing.T) {
	a := packOf("a", rel("1.0.0-rc", needs("z", "2.0.0 || 1.0.0"), needs("b", "*")), rel("1.0.0", takenBack), rel("1.0.0+b", bans("z", "*"), bans("b", "!*")))
	want := indexOf(a, packOf("a-"), published("b", "0.2.0", "0.10.0!"))
	mixed := indexOf(published("b", "0.10.0!", "0.2.0"), packOf("a", a.Releases[2], a.Releases[0], a.Releases[1]), packOf("a-"))
	for _, x := range []api.Index{want, mixed} {
		y := checkTable(t, x)
		for range 2 {
			if got := y.Index(); !likeIndex(got, want) {
				t.Errorf("Index = %v, want %v", got, want)
			}
		}
		if again := New(y.Index()); again == nil || !likeIndex(again.Index(), want) {
			t.Error("the plain index's own table has another one")
		}
	}
}

// P11.1: an index that isn't right has no table, in each of the ways in which one can be wrong.
func TestWrongIndexes(t *testing.T) {
	many := func(n int) (l []api.Pack) {
		for i := range n {
			l = append(l, packOf(strconv.Itoa(i)))
		}
		return l
	}
	b := published("b", "1.0.0", "2.0.0")
	wrong := [][]api.Pack{many(api.MaxNames + 1), {b, b}, {b, packOf("a"), packOf("b")}, {published("a", "1.0.0", "1.0.0")}, {b, published("a", "1.0.0+b", "1.0.0", "1.0.0+b!")},
		{packOf("a", rel("1.0.0", bans("a", "1.0.0")))}, {packOf("a", rel("1.0.0+b", bans("b", "*"), bans("a", "1.0.0+c")))}, {b, packOf("a", rel("2.0.0"), rel("1.0.0", bans("a", "*"), takenBack))}}
	for _, s := range []string{"", "A", "-", "a b", "a\x00", "\u00e9", strings.Repeat("a", api.MaxIdent+1)} {
		wrong = append(wrong, []api.Pack{packOf(s)}, []api.Pack{b, published(s, "1.0.0")}, []api.Pack{packOf("a", rel("1.0.0", needs(s, "*")))}, []api.Pack{packOf("a", rel("1.0.0", bans(s, "*")))})
	}
	for _, v := range wrongVersions() {
		wrong = append(wrong, []api.Pack{packOf("a", api.Release{V: v})}, []api.Pack{b, packOf("a", rel("1.0.0"), api.Release{V: v, Yanked: true})})
	}
	for _, r := range wrongRanges() {
		l := []api.Dep{dep("b", "*"), {Name: "b", R: r}}
		wrong = append(wrong, []api.Pack{packOf("a", api.Release{Needs: l[1:]}), b}, []api.Pack{packOf("a", api.Release{Bans: l})})
	}
	for _, l := range wrong {
		x := indexOf(l...)
		was := ownIndex(x)
		if y := New(x); y != nil {
			t.Errorf("New(%s) isn't nil", shown(x))
		}
		if !likeIndex(x, was) {
			t.Errorf("%s is changed", shown(was))
		}
	}
	for _, l := range [][]api.Pack{many(api.MaxNames), {b, packOf("a")}, {packOf("a", rel("1.0.0", bans("a", "2.0.0"), bans("b", "*"), needs("a", "*"), needs("c", "!*")), rel("1.0.0+b"))}} {
		if y := New(indexOf(l...)); y == nil || y.Len() != len(l) {
			t.Errorf("New(%s) is wrong", shown(l))
		}
	}
}

// P11.1: drawn indexes of any size.
func TestDrawnTables(t *testing.T) {
	r := rand.New(rand.NewPCG(11, 1))
	for range 150 {
		checkTable(t, drawnIndex(r))
	}
}

// drawnIndex is a right index of names and versions that are known.
func drawnIndex(r *rand.Rand) (x api.Index) {
	names, versions := namesRising(), slices.Concat(versionsRising()...)
	for _, i := range r.Perm(len(names))[:r.IntN(1+r.IntN(len(names)))] {
		p := packOf(names[i])
		for _, k := range r.Perm(len(versions))[:r.IntN(1+r.IntN(len(versions)))] {
			one := rel(versions[k])
			one.Yanked = r.IntN(3) == 0
			if r.IntN(4) == 0 {
				one.Needs = append(one.Needs, api.Dep{Name: names[r.IntN(len(names))], R: drawnRange(r, 2)})
			}
			if other := names[r.IntN(len(names))]; other != p.Name && r.IntN(4) == 0 {
				one.Bans = append(one.Bans, api.Dep{Name: other, R: drawnRange(r, 2)})
			}
			p.Releases = append(p.Releases, one)
		}
		x.Packs = append(x.Packs, p)
	}
	return x
}

// P11.1: the most packages that there can be, and many releases.
func TestGreatTable(t *testing.T) {
	r := rand.New(rand.NewPCG(11, 2))
	var x api.Index
	for _, i := range r.Perm(api.MaxNames) {
		x.Packs = append(x.Packs, published(fmt.Sprintf("p%04d", i), fmt.Sprintf("1.0.%d", i)))
	}
	const many = 30000
	for _, i := range r.Perm(many) {
		x.Packs[5].Releases = append(x.Packs[5].Releases, api.Release{V: api.Version{Major: 2, Minor: uint64(i) / 100, Patch: uint64(i) % 100}, Yanked: i%2 == 1})
	}
	great := x.Packs[5].Name
	y := New(x)
	if y.Len() != api.MaxNames {
		t.Fatalf("Len = %d", y.Len())
	}
	for i := range api.MaxNames {
		s := fmt.Sprintf("p%04d", i)
		if p := told(y.Find(s)); p != told(i, true) || y.Name(i) != s {
			t.Fatalf("Find(%s) = %v", s, p)
		}
		if k := told(y.Rank(i, api.Version{Major: 1, Patch: uint64(i)})); k != told(0, true) {
			t.Fatalf("Rank(%d, ..) = %v", i, k)
		}
	}
	p, _ := y.Find(great)
	for i := range many {
		v := api.Version{Major: 2, Minor: uint64(i) / 100, Patch: uint64(i) % 100}
		if k := told(y.Rank(p, v)); k != told(i+1, true) || y.Open(p, i+1) != (i%2 == 0) {
			t.Fatalf("Rank(%s, %v) = %v", great, v, k)
		}
		if r, ok := y.Release(p, i+1); !ok || !likeVersion(r.V, v) {
			t.Fatalf("Release(%s, %d) = %v", great, i+1, r)
		}
	}
}

// P1: ranges that nobody read, nested as deep as memory goes.
func TestRangesOfAnyDepth(t *testing.T) {
	defer debug.SetMaxStack(debug.SetMaxStack(1 << 20))
	for _, deep := range []api.Range{nested(api.Range{}, 1<<17), {Kind: api.RangeAnd, L: []api.Range{{}, nested(api.Range{}, 1<<17)}}} {
		one := api.Release{V: version("1.0.0")}
		one.Needs = []api.Dep{{Name: "b", R: deep}}
		if New(indexOf(packOf("a", one))) != nil {
			t.Error("New has a table of a range that is nested too deep")
		}
		y := New(indexOf(published("a", "1.0.0")))
		if l := y.Runs(0, deep); len(l) != 0 {
			t.Errorf("Runs = %v of a range that is nested too deep", l)
		}
	}
	for n, want := range map[int]int{api.MaxDeep - 1: 0, api.MaxDeep: 1} {
		deep := nested(expr("1.0.0"), n)
		y := New(indexOf(packOf("a", rel("1.0.0"), api.Release{V: version("2.0.0"), Needs: []api.Dep{{Name: "a", R: deep}}})))
		if y == nil || !slices.Equal(y.Runs(0, deep), []api.Run{{From: 1 - want, To: 2 - want}}) {
			t.Errorf("%d deep: a right range isn't taken", n)
		}
	}
}

// R8: the same questions have the same answers, each time, whatever is asked between.
func TestTheSameAnswers(t *testing.T) {
	r := rand.New(rand.NewPCG(11, 3))
	x := drawnIndex(r)
	for len(x.Packs) < 5 {
		x = drawnIndex(r)
	}
	y, other := New(x), New(x)
	all := drawnRange(r, 3)
	first := y.Runs(2, all)
	for range 3 {
		checkPack(t, y, 2, wantedPacks(x)[2])
		checkPack(t, y, 4, wantedPacks(x)[4])
		if !slices.Equal(y.Runs(2, all), first) || !slices.Equal(other.Runs(2, all), first) || !likeIndex(y.Index(), other.Index()) {
			t.Error("answers differ")
		}
	}
}

// The document's example.
func TestExample(t *testing.T) {
	y := New(indexOf(published("a", "2.0.0", "1.0.0")))
	if k := told(y.Rank(0, version("1.0.0"))); k != told(0, true) {
		t.Errorf("Rank = %v", k)
	}
	if l := y.Runs(0, expr("^1.0.0")); !slices.Equal(l, []api.Run{{From: 0, To: 1}}) {
		t.Errorf("Runs = %v", l)
	}
}

// FuzzTable draws an index and a range from bytes.
func FuzzTable(f *testing.F) {
	f.Add([]byte("a 1.0.0"))
	f.Add([]byte{1, 2, 3, 4, 5, 6, 7, 8, 9, 10, 11, 12, 13, 14, 15, 16})
	f.Fuzz(func(t *testing.T, b []byte) {
		d := draw{b}
		x, r := d.index(), d.oneRange(3)
		_, e := model.Check(x)
		if (New(x) != nil) != (e == api.OK) {
			t.Fatalf("New(%s) is wrong", shown(x))
		}
		if e != api.OK {
			return
		}
		y := checkTable(t, x)
		for p := range y.Len() {
			checkRuns(t, y, p, r)
		}
	})
}

// draw is bytes by which is drawn.
type draw struct{ b []byte }

func (d *draw) below(n int) int {
	if len(d.b) == 0 {
		return 0
	}
	c := int(d.b[0])
	d.b = d.b[1:]
	return c % n
}

func (d *draw) index() (x api.Index) {
	names, versions := append(namesRising(), "", "A"), append(each(slices.Concat(versionsRising()...), version), wrongVersions()[:3]...)
	for range d.below(6) {
		p := packOf(names[d.below(len(names))])
		for range d.below(9) {
			one := api.Release{V: versions[d.below(len(versions))], Yanked: d.below(2) == 1}
			if d.below(8) == 1 {
				one.Bans = append(one.Bans, api.Dep{Name: names[d.below(len(names))], R: d.oneRange(2)})
			}
			p.Releases = append(p.Releases, one)
		}
		x.Packs = append(x.Packs, p)
	}
	return x
}

func (d *draw) oneRange(levels int) api.Range {
	versions := slices.Concat(versionsRising()...)
	r := api.Range{Kind: d.below(13)}
	switch {
	case r.Kind >= api.RangeGe && r.Kind <= api.RangeTilde:
		r.V = version(versions[d.below(len(versions))])
	case r.Kind >= api.RangeAnd && levels > 0:
		for range 1 + d.below(3) {
			r.L = append(r.L, d.oneRange(levels-1))
		}
	}
	return r
}
