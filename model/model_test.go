package model

import (
	"cmp"
	"fmt"
	"math"
	"regexp"
	"runtime/debug"
	"slices"
	"strconv"
	"strings"
	"testing"

	"ferrule/api"
	"ferrule/norm"
	"ferrule/rangeexpr"
	"ferrule/semver"
)

// most is the greatest number that is held.
const most = "9223372036854775807"

func version(s string) api.Version {
	v, _, e := semver.Read(s)
	if e != api.OK {
		panic(s + " isn't a version")
	}
	return v
}

func expr(s string) api.Range {
	r, _, e := rangeexpr.Read(s)
	if e != api.OK {
		panic(s + " isn't an expression")
	}
	return r
}

func dep(name, s string) api.Dep    { return api.Dep{Name: name, R: expr(s)} }
func pin(name, s string) api.Pin    { return api.Pin{Name: name, V: version(s)} }
func deps(l ...api.Dep) []api.Dep   { return l }
func pins(l ...api.Pin) []api.Pin   { return l }
func not(r api.Range) api.Range     { return api.Range{Kind: api.RangeNot, L: []api.Range{r}} }
func and(l ...api.Range) api.Range  { return api.Range{Kind: api.RangeAnd, L: l} }
func index(l ...api.Pack) api.Index { return api.Index{Packs: l} }
func where(pack, release, dep int) api.Where {
	return api.Where{Pack: pack, Release: release, Dep: dep}
}
func nowhere() api.Where                      { return where(-1, -1, -1) }
func release(s string, l ...edit) api.Release { return edited(api.Release{V: version(s)}, l) }
func pack(name string, l ...api.Release) api.Pack {
	return api.Pack{Name: name, Releases: l}
}

// edit is a change of a release.
type edit func(r *api.Release)

func edited(r api.Release, l []edit) api.Release {
	for _, change := range l {
		change(&r)
	}
	return r
}

func needs(name, s string) edit {
	return func(r *api.Release) { r.Needs = append(r.Needs, dep(name, s)) }
}

func bans(name, s string) edit {
	return func(r *api.Release) { r.Bans = append(r.Bans, dep(name, s)) }
}

func takenBack(r *api.Release) { r.Yanked = true }

func likeVersion(a, b api.Version) bool {
	return a.Major == b.Major && a.Minor == b.Minor && a.Patch == b.Patch && slices.Equal(a.Pre, b.Pre) && slices.Equal(a.Build, b.Build)
}

// likeRange compares ranges field by field, as all of these do, so that nothing that is tested is taken for granted.
func likeRange(a, b api.Range) bool {
	return a.Kind == b.Kind && likeVersion(a.V, b.V) && slices.EqualFunc(a.L, b.L, likeRange)
}

func likeDep(a, b api.Dep) bool { return a.Name == b.Name && likeRange(a.R, b.R) }

func likeRelease(a, b api.Release) bool {
	return likeVersion(a.V, b.V) && a.Yanked == b.Yanked && slices.EqualFunc(a.Needs, b.Needs, likeDep) && slices.EqualFunc(a.Bans, b.Bans, likeDep)
}

func likePack(a, b api.Pack) bool {
	return a.Name == b.Name && slices.EqualFunc(a.Releases, b.Releases, likeRelease)
}

func likeIndex(a, b api.Index) bool { return slices.EqualFunc(a.Packs, b.Packs, likePack) }

func likePin(a, b api.Pin) bool { return a.Name == b.Name && likeVersion(a.V, b.V) }

// each is a list in memory of its own, of what is made of another one's elements.
func each[T, U any](l []T, of func(T) U) []U {
	var c []U
	for _, one := range l {
		c = append(c, of(one))
	}
	return c
}

func text(s string) string { return s }

func ownVersion(v api.Version) api.Version {
	v.Pre, v.Build = each(v.Pre, text), each(v.Build, text)
	return v
}

func ownRange(r api.Range) api.Range {
	r.V, r.L = ownVersion(r.V), each(r.L, ownRange)
	return r
}

func ownDep(d api.Dep) api.Dep {
	d.R = ownRange(d.R)
	return d
}

func ownRelease(r api.Release) api.Release {
	r.V, r.Needs, r.Bans = ownVersion(r.V), each(r.Needs, ownDep), each(r.Bans, ownDep)
	return r
}

func ownPack(p api.Pack) api.Pack {
	p.Releases = each(p.Releases, ownRelease)
	return p
}

func ownIndex(x api.Index) api.Index { return api.Index{Packs: each(x.Packs, ownPack)} }

func ownPin(p api.Pin) api.Pin {
	p.V = ownVersion(p.V)
	return p
}

// shown is what stands in something, as far as it is short enough to be read.
func shown(x any) string {
	s := fmt.Sprint(x)
	return s[:min(len(s), 1000)]
}

// nested is a range within n others.
func nested(r api.Range, n int, outer func(api.Range) api.Range) api.Range {
	for range n {
		r = outer(r)
	}
	return r
}

// wrongNames, wrongVersions and wrongRanges are some of each sort.
func wrongNames() []string {
	return []string{"", "-", "_a", ".", "A", "aB", "a b", " a", "a\n", "a\x00", "\xff", "a\u00e9", "a/b", strings.Repeat("a", api.MaxIdent+1)}
}

func wrongVersions() []api.Version {
	long := strings.Repeat("a", api.MaxIdent+1)
	return []api.Version{
		{Major: 1 << 63}, {Minor: math.MaxUint64}, {Patch: 1 << 63}, {Pre: []string{""}}, {Pre: []string{"01"}}, {Pre: []string{"a", "\u00e9"}}, {Pre: []string{long}}, {Pre: make([]string, 17)},
		{Pre: slices.Repeat([]string{"a"}, 17)}, {Build: []string{""}}, {Build: []string{"a.b"}}, {Build: []string{"+"}}, {Build: []string{long}}, {Build: slices.Repeat([]string{"a"}, 17)}, {Major: 1, Pre: []string{"a"}, Build: []string{"b", ""}},
	}
}

func wrongRanges() []api.Range {
	one := expr("1.0.0")
	l := []api.Range{
		{Kind: -1}, {Kind: 12}, {Kind: 99}, {Kind: math.MaxInt}, {Kind: math.MinInt}, {Kind: 12, L: []api.Range{one, one}}, {V: version("1.0.0")}, {L: []api.Range{one}}, {Kind: api.RangeEq, V: version("1.0.0"), L: []api.Range{one}},
		{Kind: api.RangeAnd}, {Kind: api.RangeOr, L: []api.Range{one}}, {Kind: api.RangeNot}, {Kind: api.RangeNot, L: []api.Range{one, one}}, {Kind: api.RangeAnd, V: version("1.0.0"), L: []api.Range{one, one}},
		not(api.Range{Kind: 77}), and(one, api.Range{Kind: 77}), nested(one, api.MaxDeep+1, not),
	}
	for i, v := range wrongVersions() {
		l = append(l, api.Range{Kind: api.RangeGe + i%8, V: v})
	}
	return l
}

// checked is what Check, Roots or Pins answer; the latter as if their lists stood in no index.
type checked struct {
	w api.Where
	e api.Errno
}

func check(x api.Index) checked {
	w, e := Check(x)
	return checked{w, e}
}

type placed struct {
	at int
	e  api.Errno
}

func roots(l []api.Dep) placed {
	at, e := Roots(l)
	return placed{at, e}
}

func ofPins(l []api.Pin) placed {
	at, e := Pins(l)
	return placed{at, e}
}

// The second way of telling what is wrong: all faults are gathered, each element held against all others, and the first one is taken at the end.

var wholeName = regexp.MustCompile(`\A[a-z0-9][a-z0-9_.-]{0,254}\z`)

// found is a fault: where it is, and which of those that are looked for there.
type found struct {
	w   api.Where
	nth int
	e   api.Errno
}

func orderOfFaults(a, b found) int {
	return cmp.Or(cmp.Compare(a.w.Pack, b.w.Pack), cmp.Compare(a.w.Release, b.w.Release), cmp.Compare(a.w.Dep, b.w.Dep), cmp.Compare(a.nth, b.nth))
}

func wrongDep(d api.Dep, w api.Where) []found {
	var all []found
	if !wholeName.MatchString(d.Name) {
		all = append(all, found{w, 1, api.ErrName})
	}
	if !rangeexpr.Good(d.R) {
		all = append(all, found{w, 2, api.ErrForm})
	}
	return all
}

func wrongRelease(x api.Index, i, j int) []found {
	var all []found
	p := x.Packs[i]
	r, w := p.Releases[j], where(i, j, -1)
	if !semver.Good(r.V) {
		all = append(all, found{w, 1, api.ErrForm})
	}
	if slices.ContainsFunc(p.Releases[:j], func(o api.Release) bool { return likeVersion(o.V, r.V) }) {
		all = append(all, found{w, 2, api.ErrThere})
	}
	for k, d := range slices.Concat(r.Needs, r.Bans) {
		w.Dep = k
		all = append(all, wrongDep(d, w)...)
		if k >= len(r.Needs) && d.Name == p.Name && norm.Has(d.R, r.V) {
			all = append(all, found{w, 3, api.ErrConflict})
		}
	}
	return all
}

func wantedCheck(x api.Index) checked {
	var all []found
	for i, p := range x.Packs {
		if !wholeName.MatchString(p.Name) {
			all = append(all, found{where(i, -1, -1), 1, api.ErrName})
		}
		if slices.ContainsFunc(x.Packs[:i], func(o api.Pack) bool { return o.Name == p.Name }) {
			all = append(all, found{where(i, -1, -1), 2, api.ErrThere})
		}
		for j := range p.Releases {
			all = append(all, wrongRelease(x, i, j)...)
		}
	}
	if len(x.Packs) > 4096 {
		all = append(all, found{nowhere(), 0, api.ErrFull})
	}
	if len(all) == 0 {
		return checked{nowhere(), api.OK}
	}
	first := slices.MinFunc(all, orderOfFaults)
	return checked{first.w, first.e}
}

func wantedPlace(all []found) placed {
	if len(all) == 0 {
		return placed{-1, api.OK}
	}
	first := slices.MinFunc(all, orderOfFaults)
	return placed{first.w.Dep, first.e}
}

func wantedRoots(l []api.Dep) placed {
	var all []found
	for i, d := range l {
		all = append(all, wrongDep(d, where(0, 0, i))...)
	}
	return wantedPlace(all)
}

func wantedPins(l []api.Pin) placed {
	var all []found
	for i, p := range l {
		w := where(0, 0, i)
		if !wholeName.MatchString(p.Name) {
			all = append(all, found{w, 1, api.ErrName})
		}
		if !semver.Good(p.V) {
			all = append(all, found{w, 2, api.ErrForm})
		}
		if slices.ContainsFunc(l[:i], func(o api.Pin) bool { return o.Name == p.Name }) {
			all = append(all, found{w, 3, api.ErrThere})
		}
	}
	return wantedPlace(all)
}

// P9.1: indexes that are right.
func TestRightIndexes(t *testing.T) {
	long := strings.Repeat("a", api.MaxIdent)
	for i, x := range []api.Index{
		{}, index(), index(pack("a")), index(pack("b"), pack("a"), pack("c")), index(pack(long), pack(long[1:]), pack("0"), pack("a-"), pack("a_.9")),
		index(pack("a", release("1.0.0"))), index(pack("a", release("1.0.0")), pack("b", release("1.0.0"))),
		// Neither plain nor with any order.
		index(pack("b", release("2.0.0"), release("1.0.0"), release("3.0.0")), pack("a", release("1.0.0", takenBack))),
		// Versions that differ in one part alone, builds too.
		index(pack("a", release("1.0.0"), release("1.0.0+b"), release("1.0.0+b.1"), release("1.0.0+1"), release("1.0.0+01"), release("1.0.0-b"), release("1.0.0-b+b"), release("1.0.1"), release("1.1.0"), release("2.0.0"), release("0.0.0"))),
		index(pack("a", release(most+"."+most+"."+most), release("0.0.0-0"), release("0.0.0-0.0"), release("0.0.0"))),
		// Needs and bans of what isn't there, twice, and without a version that could be had.
		index(pack("a", release("1.0.0", needs("b", "*"), needs("b", "*"), bans("b", "!*"), bans("c", "^1.0.0"), bans("c", "^1.0.0")))),
		// Needs of itself, had or not; bans of itself that don't have it.
		index(pack("a", release("1.0.0", needs("a", "*"), needs("a", "2.0.0"), bans("a", "!=1.0.0"), bans("a", ">1.0.0"), bans("a", "<1.0.0"), bans("a", "!*"), bans("a", "1.0.0-rc")))),
		// Bans of others that have its version; of itself what another release is.
		index(pack("a", release("1.0.0", bans("b", "1.0.0"), bans("a", "2.0.0")), release("2.0.0", bans("a", "1.0.0"))), pack("b", release("1.0.0", bans("a", "*")))),
		index(pack("a", release("1.0.0", needs("b", strings.Repeat("!", api.MaxDeep)+"*"), bans("a", strings.Repeat("(", api.MaxDeep)+"2.0.0"+strings.Repeat(")", api.MaxDeep))))),
	} {
		if got, want := check(x), (checked{nowhere(), api.OK}); got != want {
			t.Errorf("%d: Check = %v", i, got)
		}
		if want := wantedCheck(x); want.e != api.OK {
			t.Errorf("%d: the second way says %v", i, want)
		}
	}
}

// P9.1: MaxNames packages, and one more, whatever else is wrong.
func TestTooManyPackages(t *testing.T) {
	var l []api.Pack
	for i := range api.MaxNames + 1 {
		l = append(l, pack("p"+strconv.Itoa(i)))
	}
	if got := check(index(l[:api.MaxNames]...)); got != (checked{nowhere(), api.OK}) {
		t.Errorf("%d packages: %v", api.MaxNames, got)
	}
	full := checked{nowhere(), api.ErrFull}
	if got := check(index(l...)); got != full {
		t.Errorf("%d packages: %v", len(l), got)
	}
	l[0].Name, l[1].Releases, l[3].Name = "A", []api.Release{release("1.0.0"), release("1.0.0")}, l[2].Name
	if got := check(index(l...)); got != full {
		t.Errorf("%d packages, some of them wrong: %v", len(l), got)
	}
	if got := check(index(l[:api.MaxNames]...)); got != (checked{where(0, -1, -1), api.ErrName}) {
		t.Errorf("%d packages, some of them wrong: %v", api.MaxNames, got)
	}
	if got := check(api.Index{Packs: make([]api.Pack, 100000)}); got != full {
		t.Errorf("packages without names: %v", got)
	}
}

// P9.1: each fault by itself, of all sorts.
func TestEachFaultByItself(t *testing.T) {
	for _, s := range wrongNames() {
		expect(t, s, index(pack("a"), pack(s, release("1.0.0"))), where(1, -1, -1), api.ErrName)
		expect(t, s, index(pack("a", release("1.0.0", needs("b", "*")), edited(release("2.0.0"), []edit{func(r *api.Release) { r.Needs = deps(dep("c", "*"), api.Dep{Name: s}) }}))), where(0, 1, 1), api.ErrName)
		expect(t, s, index(pack("a"), pack("b", edited(release("2.0.0", needs("a", "*"), needs("c", "*")), []edit{func(r *api.Release) { r.Bans = deps(api.Dep{Name: s}) }}))), where(1, 0, 2), api.ErrName)
	}
	for i, v := range wrongVersions() {
		what := "version " + strconv.Itoa(i)
		expect(t, what, index(pack("a", api.Release{V: v})), where(0, 0, -1), api.ErrForm)
		expect(t, what, index(pack("b", release("1.0.0")), pack("a", release("1.0.0"), release("2.0.0"), api.Release{V: v, Needs: deps(dep("b", "*"))})), where(1, 2, -1), api.ErrForm)
	}
	for i, r := range wrongRanges() {
		what := "range " + strconv.Itoa(i)
		expect(t, what, index(pack("a", api.Release{Needs: deps(api.Dep{Name: "a", R: r})})), where(0, 0, 0), api.ErrForm)
		expect(t, what, index(pack("a"), pack("b", release("0.0.0"), api.Release{V: version("1.0.0"), Needs: deps(dep("b", "*"), dep("c", "*")), Bans: deps(dep("b", "!*"), api.Dep{Name: "c", R: r})})), where(1, 1, 3), api.ErrForm)
		expect(t, what, index(pack("a", api.Release{Bans: deps(api.Dep{Name: "a", R: r})})), where(0, 0, 0), api.ErrForm)
	}
	expect(t, "names", index(pack("a"), pack("b"), pack("a")), where(2, -1, -1), api.ErrThere)
	expect(t, "names", index(pack("a"), pack("a"), pack("a")), where(1, -1, -1), api.ErrThere)
	for _, s := range []string{"1.0.0", "0.0.0", "1.0.0-rc.1", "1.0.0+b", "1.0.0-rc+b.2"} {
		expect(t, s, index(pack("b", release(s)), pack("a", release(s), release("7.0.0"), release(s, takenBack, needs("a", "*")))), where(1, 2, -1), api.ErrThere)
	}
}

// expect holds what Check answers against what it is to answer.
func expect(t *testing.T, what string, x api.Index, w api.Where, e api.Errno) {
	t.Helper()
	if got := check(x); got != (checked{w, e}) {
		t.Errorf("%.40q: Check = %v, want %v %d", what, got, w, e)
	}
	if got := wantedCheck(x); got != (checked{w, e}) {
		t.Errorf("%.40q: the second way says %v, want %v %d", what, got, w, e)
	}
}

// P9.1: bans of a release's own package.
func TestBansOfItself(t *testing.T) {
	for _, c := range []struct{ v, r string }{
		{"1.0.0", "*"}, {"1.0.0", "1.0.0"}, {"1.0.0", "1.0.0+b"}, {"1.0.0+b", "1.0.0"}, {"1.0.0+b", "1.0.0+c"}, {"1.0.0", ">=1.0.0"}, {"1.0.0", "<=1.0.0"}, {"1.0.0", "^1.0.0"}, {"1.5.0", "^1.0.0"}, {"1.0.0", "~1.0.0-rc"},
		{"1.0.0-rc", ">=1.0.0-0, <1.0.0"}, {"1.0.0", "!2.0.0"}, {"1.0.0", "2.0.0 || 1.0.0"}, {"0.0.0-0", "<0.0.0"}, {most + ".0.0", ">1.0.0"},
	} {
		expect(t, c.r, index(pack("a", release(c.v, bans("a", c.r)))), where(0, 0, 0), api.ErrConflict)
		expect(t, c.r, index(pack("b", release(c.v, bans("a", c.r))), pack("a", release("9.9.9"), release(c.v, needs("a", c.r), bans("b", c.r), bans("a", "9.9.9"), bans("a", c.r)))), where(1, 1, 3), api.ErrConflict)
	}
	for _, c := range []struct{ v, r string }{
		{"1.0.0", "!*"}, {"1.0.0", "1.0.0-rc"}, {"1.0.0-rc", "1.0.0"}, {"1.0.0", ">1.0.0"}, {"1.0.0+b", ">1.0.0"}, {"1.0.0", "<1.0.0"}, {"1.0.0", "!=1.0.0+b"}, {"1.0.0-rc", "^1.0.0"}, {"2.0.0", "^1.0.0"}, {"1.0.0", "2.0.0, 1.0.0"}, {"0.0.0-0", "<0.0.0-0"},
	} {
		expect(t, c.r, index(pack("a", release(c.v, bans("a", c.r)))), nowhere(), api.OK)
		expect(t, c.r, index(pack("a", release(c.v, bans("a", c.r), bans("a", "*")))), where(0, 0, 1), api.ErrConflict)
	}
}

// flaw makes something of an index wrong that was right: where, and what.
type flaw struct {
	w    api.Where
	e    api.Errno
	make func(x *api.Index)
}

// sound is a right index of three packages, with two releases each, with two needs and two bans each.
func sound() api.Index {
	var x api.Index
	for _, name := range []string{"b", "c", "a"} {
		p := pack(name)
		for _, v := range []string{"2.0.0", "1.0.0"} {
			p.Releases = append(p.Releases, release(v, needs("a", "*"), needs("x", "^1.0.0"), bans(name, ">9.0.0"), bans("y", "*")))
		}
		x.Packs = append(x.Packs, p)
	}
	return x
}

// flaws are of all sorts, in all places of what sound is.
func flaws() []flaw {
	var all []flaw
	for i := range 3 {
		at := func(x *api.Index) *api.Pack { return &x.Packs[i] }
		all = append(all, flaw{where(i, -1, -1), api.ErrName, func(x *api.Index) { at(x).Name = "A" }})
		if i > 0 {
			all = append(all, flaw{where(i, -1, -1), api.ErrThere, func(x *api.Index) { at(x).Name = "b" }})
		}
		for j := range 2 {
			all = append(all, flawsOfRelease(i, j)...)
		}
	}
	return all
}

func flawsOfRelease(i, j int) []flaw {
	at := func(x *api.Index) *api.Release { return &x.Packs[i].Releases[j] }
	all := []flaw{{where(i, j, -1), api.ErrForm, func(x *api.Index) { at(x).V.Pre = []string{""} }}}
	if j > 0 {
		all = append(all, flaw{where(i, j, -1), api.ErrThere, func(x *api.Index) { at(x).V = version("2.0.0") }})
	}
	for k := range 4 {
		of := func(x *api.Index) *api.Dep {
			if k < 2 {
				return &at(x).Needs[k]
			}
			return &at(x).Bans[k-2]
		}
		all = append(all, flaw{where(i, j, k), api.ErrName, func(x *api.Index) { of(x).Name = "-" }})
		all = append(all, flaw{where(i, j, k), api.ErrForm, func(x *api.Index) { of(x).R = api.Range{Kind: 12} }})
		if k >= 2 {
			all = append(all, flaw{where(i, j, k), api.ErrConflict, func(x *api.Index) { *of(x) = api.Dep{Name: x.Packs[i].Name} }})
		}
	}
	return all
}

// P9.1: of several faults the first one is told, package by package, release by release, needs ahead of bans; each two of them, and three.
func TestTheFirstFaultOfSeveral(t *testing.T) {
	expect(t, "sound", sound(), nowhere(), api.OK)
	all := flaws()
	for i, a := range all {
		x := sound()
		a.make(&x)
		expect(t, "flaw "+strconv.Itoa(i), x, a.w, a.e)
		for k, b := range all {
			for _, c := range []flaw{b, all[(7*i+11*k)%len(all)]} {
				x := sound()
				a.make(&x)
				b.make(&x)
				c.make(&x)
				if got, want := check(x), wantedCheck(x); got != want || want.e == api.OK {
					t.Fatalf("flaws %d and %d: Check = %v, want %v", i, k, got, want)
				}
			}
		}
	}
}

// P9.1: of faults of one thing the one that is looked for first.
func TestFaultsOfOneThing(t *testing.T) {
	wrong := api.Range{Kind: 12}
	one := api.Version{Pre: []string{""}}
	for i, c := range []struct {
		x api.Index
		w api.Where
		e api.Errno
	}{
		// A package's name, ahead of what it has.
		{index(pack("A", api.Release{V: one})), where(0, -1, -1), api.ErrName},
		{index(pack("A"), pack("A")), where(0, -1, -1), api.ErrName},
		{index(pack("a"), pack("a", api.Release{V: one}), pack("A")), where(1, -1, -1), api.ErrThere},
		// A package's last fault, ahead of the next one's first.
		{index(pack("a", release("1.0.0"), api.Release{Bans: deps(api.Dep{Name: "a"})}), pack("A")), where(0, 1, 0), api.ErrConflict},
		// A release's version, ahead of its needs; a wrong one that was there, too.
		{index(pack("a", api.Release{V: one, Needs: deps(api.Dep{})})), where(0, 0, -1), api.ErrForm},
		{index(pack("a", api.Release{V: one}, api.Release{V: one})), where(0, 0, -1), api.ErrForm},
		{index(pack("a", api.Release{}, api.Release{Needs: deps(api.Dep{})}, api.Release{V: one})), where(0, 1, -1), api.ErrThere},
		{index(pack("a", api.Release{Needs: deps(api.Dep{Name: "a", R: wrong})}, api.Release{})), where(0, 0, 0), api.ErrForm},
		// A name, a range, a ban of itself; needs ahead of bans.
		{index(pack("a", api.Release{Needs: deps(api.Dep{R: wrong})})), where(0, 0, 0), api.ErrName},
		{index(pack("a", api.Release{Bans: deps(api.Dep{R: wrong})})), where(0, 0, 0), api.ErrName},
		{index(pack("a", api.Release{Bans: deps(api.Dep{Name: "a", R: not(wrong)}, api.Dep{})})), where(0, 0, 0), api.ErrForm},
		{index(pack("a", api.Release{Needs: deps(dep("b", "*"), api.Dep{Name: "c", R: wrong}), Bans: deps(api.Dep{})})), where(0, 0, 1), api.ErrForm},
		{index(pack("a", api.Release{Needs: deps(dep("b", "*"), api.Dep{}), Bans: deps(api.Dep{Name: "a"})})), where(0, 0, 1), api.ErrName},
		{index(pack("a", api.Release{Needs: deps(dep("a", "*")), Bans: deps(api.Dep{Name: "a"}, api.Dep{})})), where(0, 0, 1), api.ErrConflict},
		{index(pack("a", api.Release{Bans: deps(dep("a", "!*"), api.Dep{}, api.Dep{Name: "a"})})), where(0, 0, 1), api.ErrName},
		// What was there in another package, or another index, wasn't there in this one.
		{index(pack("a", release("1.0.0"), release("2.0.0")), pack("b", release("2.0.0"), release("1.0.0"), release("2.0.0"))), where(1, 2, -1), api.ErrThere},
	} {
		expect(t, "case "+strconv.Itoa(i), c.x, c.w, c.e)
	}
}

// P9.1: many releases, needs and bans, the last of which is wrong.
func TestManyReleases(t *testing.T) {
	const n = 20000
	p := pack("a")
	for i := range n {
		p.Releases = append(p.Releases, api.Release{V: api.Version{Minor: uint64(i * 7919 % n)}})
	}
	if got := check(index(p)); got != (checked{nowhere(), api.OK}) {
		t.Errorf("%d releases: %v", n, got)
	}
	p.Releases = append(p.Releases, api.Release{V: api.Version{Minor: 7919 % n}})
	if got := check(index(p)); got != (checked{where(0, n, -1), api.ErrThere}) {
		t.Errorf("%d releases, one of them twice: %v", n, got)
	}
	l := slices.Repeat(deps(dep("b", "*")), n)
	if got := check(index(pack("a", api.Release{Needs: l, Bans: append(slices.Clone(l), api.Dep{})}))); got != (checked{where(0, 0, 2*n), api.ErrName}) {
		t.Errorf("%d needs and bans: %v", 2*n, got)
	}
	if got := roots(append(slices.Clone(l), api.Dep{Name: "b", R: api.Range{Kind: 12}})); got != (placed{n, api.ErrForm}) {
		t.Errorf("%d roots: %v", n, got)
	}
	var row []api.Pin
	for i := range n {
		row = append(row, api.Pin{Name: strconv.Itoa(i)})
	}
	if got := ofPins(row); got != (placed{-1, api.OK}) {
		t.Errorf("%d pins: %v", n, got)
	}
	if got := ofPins(append(row, row[n/2])); got != (placed{n, api.ErrThere}) {
		t.Errorf("%d pins, one of them twice: %v", n, got)
	}
}

// P9.2: Roots, by hand: each fault by itself, and with others.
func TestRoots(t *testing.T) {
	good := deps(dep("b", "*"), dep("a", "^1.0.0"), dep("b", "*"), dep("b", "!*"), dep("zz", strings.Repeat("!", api.MaxDeep)+"*"))
	for n := range len(good) + 1 {
		if got := roots(good[:n]); got != (placed{-1, api.OK}) {
			t.Errorf("%d right ones: %v", n, got)
		}
	}
	wrong := api.Range{Kind: 12}
	for at := range len(good) + 1 {
		with := func(l ...api.Dep) []api.Dep { return slices.Insert(slices.Clone(good), at, l...) }
		for _, s := range wrongNames() {
			for _, l := range [][]api.Dep{with(api.Dep{Name: s}), with(api.Dep{Name: s, R: wrong}), with(api.Dep{Name: s}, api.Dep{Name: "a", R: wrong}), with(api.Dep{Name: s}, api.Dep{Name: s, R: wrong})} {
				if got, want := roots(l), (placed{at, api.ErrName}); got != want || wantedRoots(l) != want {
					t.Errorf("%.40q at %d: Roots = %v", s, at, got)
				}
			}
		}
		for i, r := range wrongRanges() {
			for _, l := range [][]api.Dep{with(api.Dep{Name: "a", R: r}), with(api.Dep{Name: "b", R: r}, api.Dep{Name: ""}), with(api.Dep{Name: "b", R: r}, api.Dep{Name: "b", R: wrong})} {
				if got, want := roots(l), (placed{at, api.ErrForm}); got != want || wantedRoots(l) != want {
					t.Errorf("range %d at %d: Roots = %v", i, at, got)
				}
			}
		}
	}
}

// P9.2: Pins, likewise.
func TestPins(t *testing.T) {
	good := pins(pin("b", "1.0.0"), pin("a", "1.0.0"), pin("zz", most+".0.0-rc.1+b"), pin("0", "0.0.0"))
	for n := range len(good) + 1 {
		if got := ofPins(good[:n]); got != (placed{-1, api.OK}) {
			t.Errorf("%d right ones: %v", n, got)
		}
	}
	wrong := api.Version{Pre: []string{""}}
	for at := range len(good) + 1 {
		with := func(l ...api.Pin) []api.Pin { return slices.Insert(slices.Clone(good), at, l...) }
		try := func(what string, want api.Errno, lists ...[]api.Pin) {
			for k, l := range lists {
				if got, want := ofPins(l), (placed{at, want}); got != want || wantedPins(l) != want {
					t.Errorf("%.40q (%d) at %d: Pins = %v", what, k, at, got)
				}
			}
		}
		for _, s := range wrongNames() {
			try(s, api.ErrName, with(api.Pin{Name: s}), with(api.Pin{Name: s, V: wrong}), with(api.Pin{Name: s}, api.Pin{Name: "x", V: wrong}), with(api.Pin{Name: s}, api.Pin{Name: s}))
		}
		for i, v := range wrongVersions() {
			try("version "+strconv.Itoa(i), api.ErrForm, with(api.Pin{Name: "x", V: v}), with(api.Pin{Name: "x", V: v}, api.Pin{}), with(api.Pin{Name: "x", V: v}, api.Pin{Name: "x"}))
		}
		for _, p := range good[:at] {
			try(p.Name, api.ErrThere, with(p), with(api.Pin{Name: p.Name, V: version("9.9.9")}), with(p, api.Pin{}), with(p, api.Pin{Name: "x", V: wrong}))
			try(p.Name, api.ErrForm, with(api.Pin{Name: p.Name, V: wrong}))
		}
	}
}

// P1, P9.1 and P9.2: roots and pins as bytes tell them, and indexes of them.
func FuzzCheck(f *testing.F) {
	f.Add([]byte{0, 1, 2, 3, 4, 5, 6, 7, 8, 9})
	f.Add([]byte{16, 33, 50, 16, 33, 50, 51, 52, 53, 160, 161})
	f.Add([]byte{32, 17, 18, 19, 17, 34, 51, 68, 17, 82, 35})
	f.Fuzz(func(t *testing.T, b []byte) {
		if len(b) > 300 {
			return
		}
		x, l, row := drawn(b)
		if got, want := check(x), wantedCheck(x); got != want {
			t.Fatalf("Check(%s) = %v, want %v", shown(x), got, want)
		}
		if got, want := roots(l), wantedRoots(l); got != want {
			t.Fatalf("Roots(%s) = %v, want %v", shown(l), got, want)
		}
		if got, want := ofPins(row), wantedPins(row); got != want {
			t.Fatalf("Pins(%s) = %v, want %v", shown(row), got, want)
		}
	})
}

// drawn is an index, roots and pins that bytes tell: mostly right ones.
func drawn(b []byte) (x api.Index, l []api.Dep, row []api.Pin) {
	names := append([]string{"a", "b", "c", "d", "e", "f"}, wrongNames()[:2]...)
	versions := append(each([]string{"1.0.0", "1.0.0+b", "2.0.0", "1.5.0", "1.0.0-rc", "3.0.0"}, version), wrongVersions()[3:5]...)
	ranges := append(each([]string{"*", "^1.0.0", "!=1.5.0", ">1.0.0", "!*", "2.0.0 || 1.0.0-rc"}, expr), wrongRanges()[1:3]...)
	at := func(c byte, n int) int {
		// The wrong ones are drawn seldom.
		if c < 250 {
			n -= 2
		}
		return int(c) % n
	}
	for i, c := range b {
		n := b[(7*i+3)%len(b)]
		one := api.Dep{Name: names[at(c/8, len(names))], R: ranges[at(n, len(ranges))]}
		last := len(x.Packs) - 1
		switch kind := c % 8; {
		case last < 0 || kind == 0:
			x.Packs = append(x.Packs, pack(names[at(c/8^n, len(names))]))
		case kind < 3 || len(x.Packs[last].Releases) == 0:
			x.Packs[last].Releases = append(x.Packs[last].Releases, api.Release{V: versions[at(c/8, len(versions))], Yanked: n%4 == 0})
		case kind == 3:
			l = append(l, one)
		case kind == 4:
			row = append(row, api.Pin{Name: one.Name, V: versions[at(n, len(versions))]})
		default:
			r := &x.Packs[last].Releases[len(x.Packs[last].Releases)-1]
			if kind < 7 {
				r.Needs = append(r.Needs, one)
			} else {
				r.Bans = append(r.Bans, one)
			}
		}
	}
	return x, l, row
}

// P1 and R1: a range that nobody read may be nested deeper than calls can be: the room for calls is made small here, since a stack that is too small ends the program.
func TestRangesOfAnyDepth(t *testing.T) {
	const levels = 1 << 17
	defer debug.SetMaxStack(debug.SetMaxStack(1 << 20))
	for i, r := range []api.Range{
		nested(expr("1.0.0"), levels, not),
		nested(expr("1.0.0"), levels, func(r api.Range) api.Range { return and(expr("*"), r, expr("*")) }),
	} {
		d := api.Dep{Name: "a", R: r}
		x := index(pack("a", api.Release{Needs: deps(d)}, api.Release{V: version("1.0.0"), Bans: deps(d)}))
		if got := check(x); got != (checked{where(0, 0, 0), api.ErrForm}) {
			t.Errorf("%d: Check = %v", i, got)
		}
		x.Packs[0].Releases[0].Needs = nil
		if got := check(x); got != (checked{where(0, 1, 0), api.ErrForm}) {
			t.Errorf("%d: Check = %v", i, got)
		}
		if got := roots(deps(d)); got != (placed{0, api.ErrForm}) {
			t.Errorf("%d: Roots = %v", i, got)
		}
		if Solves(x, nil, nil) || Solves(api.Index{}, deps(d), nil) || !IsPlain(x) {
			t.Errorf("%d: a range of %d levels is right", i, levels)
		}
		got, ok := Release(Plain(x), "a", version("1.0.0"))
		if !ok || len(got.Bans) != 1 || !rangeexpr.Same(got.Bans[0].R, r) {
			t.Errorf("%d: the range's copy is another one", i)
		}
		// Written over at each level, the copy changes nothing of what was handed in.
		for one := &got.Bans[0].R; len(one.L) > 0; one = &one.L[len(one.L)/2] {
			one.Kind = -1
		}
		if again, _ := Release(x, "a", version("1.0.0")); !rangeexpr.Same(again.Bans[0].R, r) || r.Kind == -1 {
			t.Errorf("%d: a copy shares memory", i)
		}
	}
}
