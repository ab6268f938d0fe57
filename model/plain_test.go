package model

import (
	"math"
	"math/rand/v2"
	"slices"
	"strconv"
	"strings"
	"testing"
	"unsafe"

	"ferrule/api"
)

// namesRising is texts as they stand, names and others.
func namesRising() []string {
	return []string{"", "\x00", "-", "0", "00", "1", "10", "2", "A", "Z", "_", "a", "a\x00", "a-", "a-z", "a.", "a0", "aA", "a_", "aa", "ab", "b", "ba", "c", "d", "z", "zz", "{", "\u00e9", "\xff", "\xff\xff"}
}

// versionsRising is versions in the full order, right ones and others.
func versionsRising() []api.Version {
	var l []api.Version
	for _, s := range []string{
		"0.0.0-0", "0.0.0-0+0", "0.0.0", "0.0.0+0", "0.0.1", "0.0.10", "0.1.0", "0.9.0", "0.10.0", "1.0.0-0", "1.0.0-1", "1.0.0-2", "1.0.0-10", "1.0.0-10.0", "1.0.0-10.a", "1.0.0-A", "1.0.0-a", "1.0.0-a+b", "1.0.0-a.1", "1.0.0-a.b", "1.0.0-aa", "1.0.0-rc", "1.0.0-rc.2", "1.0.0-rc.10",
		"1.0.0", "1.0.0+0", "1.0.0+00", "1.0.0+1", "1.0.0+01", "1.0.0+001", "1.0.0+2", "1.0.0+2.0", "1.0.0+10", "1.0.0+-", "1.0.0+A", "1.0.0+a", "1.0.0+a.0", "1.0.0+b", "1.0.1-0", "1.0.1", "1.2.0", "1.10.0-rc", "1.10.0", "2.0.0-0", "2.0.0-rc", "2.0.0", "10.0.0", most + ".0.0", most + "." + most + "." + most,
	} {
		l = append(l, version(s))
	}
	return append(l, api.Version{Major: 1 << 63}, api.Version{Major: 1 << 63, Build: []string{""}}, api.Version{Major: 1 << 63, Build: []string{"", ""}}, api.Version{Major: 1 << 63, Build: []string{"\x00"}}, api.Version{Major: 1<<63 + 1, Pre: []string{"01"}}, api.Version{Major: math.MaxUint64, Pre: []string{""}}, api.Version{Major: math.MaxUint64})
}

// The second way of making an index plain: what stands nowhere else is put in one heap for each name, and for each version, and the heaps are laid behind one another.

func wantedReleases(l []api.Release) []api.Release {
	var all []api.Release
	for _, v := range versionsRising() {
		for _, r := range l {
			if likeVersion(r.V, v) {
				all = append(all, ownRelease(r))
			}
		}
	}
	if len(all) != len(l) {
		panic("a version is unknown")
	}
	return all
}

func wantedPlain(x api.Index) api.Index {
	var all []api.Pack
	for _, s := range namesRising() {
		for _, p := range x.Packs {
			if p.Name == s {
				all = append(all, api.Pack{Name: s, Releases: wantedReleases(p.Releases)})
			}
		}
	}
	if len(all) != len(x.Packs) {
		panic("a name is unknown")
	}
	return api.Index{Packs: all}
}

// checkPlain holds Plain and IsPlain of an index against the second way.
func checkPlain(t *testing.T, x api.Index) {
	t.Helper()
	was, want := ownIndex(x), wantedPlain(x)
	got := Plain(x)
	if !likeIndex(got, want) {
		t.Fatalf("Plain(%s) = %s, want %s", shown(was), shown(got), shown(want))
	}
	if is := IsPlain(x); is != likeIndex(was, want) {
		t.Fatalf("IsPlain(%s) = %v", shown(was), is)
	}
	if !IsPlain(got) || !likeIndex(Plain(got), want) {
		t.Fatalf("Plain(%s) isn't plain", shown(was))
	}
	if !likeIndex(x, was) {
		t.Fatalf("%s is changed: %s", shown(was), shown(x))
	}
}

// P9.3: Plain and IsPlain, by hand.
func TestPlainByHand(t *testing.T) {
	for i, c := range []struct{ x, want api.Index }{
		{index(), index()},
		{index(pack("a")), index(pack("a"))},
		{index(pack("b"), pack("a")), index(pack("a"), pack("b"))},
		{index(pack("a0"), pack("b"), pack("a-"), pack("a")), index(pack("a"), pack("a-"), pack("a0"), pack("b"))},
		{index(pack("a", release("1.0.0"), release("1.0.0-rc.10"), release("1.0.0+b"), release("1.0.0-rc.2"), release("0.9.0"))), index(pack("a", release("0.9.0"), release("1.0.0-rc.2"), release("1.0.0-rc.10"), release("1.0.0"), release("1.0.0+b")))},
		// Needs and bans stay as they stand.
		{index(pack("b", release("2.0.0", needs("z", "2.0.0 || 1.0.0"), needs("a", "*"), bans("y", "*"), bans("c", "!*"), takenBack), release("1.0.0"))), index(pack("b", release("1.0.0"), release("2.0.0", needs("z", "2.0.0 || 1.0.0"), needs("a", "*"), bans("y", "*"), bans("c", "!*"), takenBack)))},
		// What is alike stays in order: packages of one name, releases of one version.
		{index(pack("b"), pack("a", release("2.0.0")), pack("a", release("1.0.0")), pack("a")), index(pack("a", release("2.0.0")), pack("a", release("1.0.0")), pack("a"), pack("b"))},
		{index(pack("a", release("2.0.0"), release("1.0.0", takenBack), release("1.0.0", needs("b", "*")), release("1.0.0"))), index(pack("a", release("1.0.0", takenBack), release("1.0.0", needs("b", "*")), release("1.0.0"), release("2.0.0")))},
		// Names, versions and ranges that are none, too.
		{index(pack("b", api.Release{V: api.Version{Major: 1 << 63}}, api.Release{V: api.Version{Pre: []string{"a", ""}}, Needs: deps(api.Dep{R: api.Range{Kind: 99, V: version("1.0.0+b"), L: []api.Range{{Kind: -1}}}})}), pack("B")), index(pack("B"), pack("b", api.Release{V: api.Version{Pre: []string{"a", ""}}, Needs: deps(api.Dep{R: api.Range{Kind: 99, V: version("1.0.0+b"), L: []api.Range{{Kind: -1}}}})}, api.Release{V: api.Version{Major: 1 << 63}}))},
	} {
		if got := Plain(c.x); !likeIndex(got, c.want) {
			t.Errorf("%d: Plain = %v, want %v", i, got, c.want)
		}
		if got, want := IsPlain(c.x), i < 2; got != want || !IsPlain(c.want) {
			t.Errorf("%d: IsPlain = %v", i, got)
		}
	}
}

// P9.3: each two names, and each two versions, in either order, and the same twice.
func TestEachTwoInOrder(t *testing.T) {
	names, versions := namesRising(), versionsRising()
	for i, a := range names {
		for k, b := range names {
			x := index(pack(a, release("2.0.0")), pack(b, release("1.0.0")))
			checkPlain(t, x)
			if IsPlain(x) != (i <= k) {
				t.Errorf("%q ahead of %q: IsPlain = %v", a, b, IsPlain(x))
			}
		}
	}
	for i, a := range versions {
		for k, b := range versions {
			x := index(pack("a"), pack("b", api.Release{V: a, Yanked: true}, api.Release{V: b, Bans: deps(dep("a", "*"))}), pack("c"))
			checkPlain(t, x)
			if IsPlain(x) != (i <= k) {
				t.Errorf("%v ahead of %v: IsPlain = %v", a, b, IsPlain(x))
			}
		}
	}
}

// P9.3: all orders of five packages and of five releases, two of which are alike.
func TestAllOrders(t *testing.T) {
	packs := []api.Pack{pack("a"), pack("b", release("1.0.0")), pack("b", release("0.9.0")), pack("c"), pack("d", release("2.0.0"))}
	releases := []api.Release{release("1.0.0-rc"), release("1.0.0", takenBack), release("1.0.0", needs("b", "*")), release("1.0.0+b"), release("2.0.0-0")}
	plain := 0
	for _, order := range orders(5) {
		x, p := index(), pack("a")
		for _, i := range order {
			x.Packs, p.Releases = append(x.Packs, packs[i]), append(p.Releases, releases[i])
		}
		checkPlain(t, x)
		checkPlain(t, index(p))
		checkPlain(t, index(pack("0"), p, pack("b")))
		if IsPlain(x) {
			plain++
		}
	}
	// Those that are alike in either order.
	if plain != 2 {
		t.Errorf("%d orders are plain", plain)
	}
}

// orders is all orders of the numbers below n.
func orders(n int) [][]int {
	if n == 0 {
		return [][]int{nil}
	}
	var all [][]int
	for _, l := range orders(n - 1) {
		for at := range n {
			all = append(all, slices.Insert(slices.Clone(l), at, n-1))
		}
	}
	return all
}

// P9.3: drawn indexes of any size, with much that is alike.
func TestPlainOfDrawnIndexes(t *testing.T) {
	r := rand.New(rand.NewPCG(9, 3))
	names, versions := namesRising(), versionsRising()
	for range 300 {
		var x api.Index
		spread := 1 + r.IntN(len(names))
		for i := range r.IntN(60) {
			p := pack(names[r.IntN(spread)])
			for k := range r.IntN(40) {
				p.Releases = append(p.Releases, api.Release{V: versions[r.IntN(1+r.IntN(len(versions)))], Needs: deps(api.Dep{Name: strconv.Itoa(i), R: api.Range{Kind: k}})})
			}
			x.Packs = append(x.Packs, p)
		}
		checkPlain(t, x)
	}
}

// memory is where the lists of an answer, or of what is handed in, lie: of each its first byte, and the one behind its room.
type memory [][2]uintptr

func roomOf[T any](l []T) [2]uintptr {
	from := uintptr(unsafe.Pointer(unsafe.SliceData(l)))
	return [2]uintptr{from, from + uintptr(cap(l))*unsafe.Sizeof(*new(T))}
}

func add[T any](m *memory, l []T) {
	if cap(l) > 0 {
		*m = append(*m, roomOf(l))
	}
}

func (m *memory) version(v api.Version) {
	add(m, v.Pre)
	add(m, v.Build)
}

func (m *memory) oneRange(r api.Range) {
	m.version(r.V)
	add(m, r.L)
	for _, one := range r.L {
		m.oneRange(one)
	}
}

func (m *memory) release(r api.Release) {
	m.version(r.V)
	for _, l := range [][]api.Dep{r.Needs, r.Bans} {
		add(m, l)
		for _, d := range l {
			m.oneRange(d.R)
		}
	}
}

func (m *memory) index(x api.Index) {
	add(m, x.Packs)
	for _, p := range x.Packs {
		add(m, p.Releases)
		for _, r := range p.Releases {
			m.release(r)
		}
	}
}

// checkApart tells, if two lists of an answer share memory, or one of it and one of another.
func checkApart(t *testing.T, what string, answer, other memory) {
	t.Helper()
	for i, a := range answer {
		for _, b := range slices.Concat(answer[:i], other) {
			if a[0] < b[1] && b[0] < a[1] {
				t.Errorf("%s: lists share memory", what)
			}
		}
	}
}

// roomy is an index whose lists have more memory behind their lengths, much of it in common; and what that memory is.
func roomy() (x api.Index, whole api.Index, texts []string) {
	texts = []string{"rc", "1", "b", "z"}
	v := func(major uint64) api.Version {
		return api.Version{Major: major, Pre: texts[:2], Build: texts[2:3]}
	}
	ranges := []api.Range{{Kind: api.RangeGe, V: v(1)}, {Kind: api.RangeNe, V: v(7)}, {Kind: 99}, {Kind: 98, L: make([]api.Range, 3)}}
	both := api.Range{Kind: api.RangeAnd, L: ranges[:2]}
	either := api.Range{Kind: api.RangeOr, L: []api.Range{both, both, {Kind: api.RangeEq, V: v(0), L: ranges[:0]}}}
	l := deps(api.Dep{Name: "a", R: both}, api.Dep{Name: "b", R: either}, api.Dep{Name: "A"}, api.Dep{Name: "-", R: ranges[3]})
	others := deps(api.Dep{Name: "x", R: either}, api.Dep{Name: "A"})
	releases := []api.Release{{V: v(2), Needs: l[:2], Bans: l[:0]}, {V: v(1), Needs: l[:1], Bans: others[:1]}, {V: v(1)}, {V: v(0), Yanked: true}}
	packs := []api.Pack{pack("b", releases[:2]...), pack("a", releases[:2]...), pack("c", releases[:0]...), pack("a"), pack("A")}
	packs[0].Releases, packs[1].Releases, packs[2].Releases = releases[:2], releases[:2], releases[:0]
	return api.Index{Packs: packs[:3]}, api.Index{Packs: append(packs, api.Pack{Releases: append(releases, api.Release{Needs: l, Bans: deps(api.Dep{R: api.Range{L: ranges}})})})}, texts
}

// R4: what is handed in is left as it was, and what lies behind its lists' lengths is neither read nor written.
func TestIndexesAreLeftAsTheyWere(t *testing.T) {
	x, whole, texts := roomy()
	own, was := ownIndex(x), ownIndex(whole)
	row := pins(api.Pin{Name: "a", V: ownVersion(x.Packs[1].Releases[0].V)}, api.Pin{Name: "b", V: ownVersion(x.Packs[0].Releases[0].V)}, api.Pin{Name: "A"})
	l := deps(dep("a", ">1.0.0"), dep("b", "*"), api.Dep{Name: "A"})
	for range 2 {
		if got := check(x); got != (checked{nowhere(), api.OK}) || check(own) != got {
			t.Errorf("Check = %v", got)
		}
		if got := roots(l[:2]); got != (placed{-1, api.OK}) {
			t.Errorf("Roots = %v", got)
		}
		if got := ofPins(row[:2]); got != (placed{-1, api.OK}) {
			t.Errorf("Pins = %v", got)
		}
		if !Solves(x, l[:2], row[:2]) || !Solves(own, l[:2], row[:2]) || Solves(x, l[:2], row) {
			t.Error("Solves hangs on what lies behind a length")
		}
		if got := Plain(x); !likeIndex(got, Plain(own)) || IsPlain(x) || !IsPlain(got) {
			t.Errorf("Plain = %v", got)
		}
		if got, ok := Release(x, "a", x.Packs[1].Releases[1].V); !ok || !likeRelease(got, own.Packs[1].Releases[1]) {
			t.Errorf("Release = %v, %v", got, ok)
		}
		if _, ok := Release(x, "c", x.Packs[1].Releases[1].V); ok {
			t.Error("Release reads behind a length")
		}
	}
	if !likeIndex(whole, was) || !slices.Equal(texts, []string{"rc", "1", "b", "z"}) || row[2].Name != "A" || l[2].Name != "A" {
		t.Errorf("what was handed in is changed: %v", whole)
	}
}

// written writes over all that an index has, and adds an element to every list of it.
func written(x *api.Index) {
	for i := range x.Packs {
		p := &x.Packs[i]
		p.Name += "?"
		for k := range p.Releases {
			writtenRelease(&p.Releases[k])
		}
		p.Releases = append(p.Releases, api.Release{Yanked: true})
	}
	x.Packs = append(x.Packs, api.Pack{Name: "new"})
}

func writtenRelease(r *api.Release) {
	writtenVersion(&r.V)
	r.Yanked = !r.Yanked
	for _, l := range []*[]api.Dep{&r.Needs, &r.Bans} {
		for i := range *l {
			(*l)[i].Name += "?"
			writtenRange(&(*l)[i].R)
		}
		*l = append(*l, api.Dep{Name: "new"})
	}
}

func writtenRange(r *api.Range) {
	r.Kind++
	writtenVersion(&r.V)
	for i := range r.L {
		writtenRange(&r.L[i])
	}
	r.L = append(r.L, api.Range{Kind: 12})
}

func writtenVersion(v *api.Version) {
	v.Patch++
	for _, l := range []*[]string{&v.Pre, &v.Build} {
		for i := range *l {
			(*l)[i] += "?"
		}
		*l = append(*l, "new", "new")
	}
}

// P9.3 and R4: what Plain and Release answer is new memory, list by list: written over and grown, it changes nothing else; and nothing changes it.
func TestAnswersAreNewMemory(t *testing.T) {
	x, whole, _ := roomy()
	was, want := ownIndex(whole), ownIndex(Plain(x))
	var handed memory
	handed.index(whole)
	got := Plain(x)
	var answered memory
	answered.index(got)
	checkApart(t, "Plain", answered, handed)
	wantWritten := ownIndex(want)
	written(&wantWritten)
	if written(&got); !likeIndex(got, wantWritten) {
		t.Errorf("Plain, written over: %v, want %v", got, wantWritten)
	}
	plain := Plain(want)
	if written(&plain); !likeIndex(want, Plain(x)) {
		t.Errorf("Plain of a plain one, written over, changes that one: %v", want)
	}
	v := ownVersion(x.Packs[0].Releases[1].V)
	one, _ := Release(x, "b", v)
	wantOne := ownRelease(x.Packs[0].Releases[1])
	var answeredOne memory
	answeredOne.release(one)
	checkApart(t, "Release", answeredOne, handed)
	again, _ := Release(x, "b", v)
	if writtenRelease(&again); !likeIndex(whole, was) || !likeRelease(one, wantOne) {
		t.Errorf("an answer, written over, changes something: %v, %v", whole, one)
	}
	// The other way about.
	got = Plain(x)
	written(&x)
	if !likeIndex(got, want) || !likeRelease(one, wantOne) {
		t.Errorf("what was handed in, written over, changes an answer: %v, %v", got, one)
	}
}

// P9.3 and R3: lists without elements are answered as nil ones, in memory of their own.
func TestListsWithoutElements(t *testing.T) {
	x := api.Index{Packs: []api.Pack{{Name: "a", Releases: []api.Release{{V: api.Version{Pre: []string{}, Build: []string{}}, Needs: []api.Dep{}, Bans: []api.Dep{{Name: "b", R: api.Range{L: []api.Range{}}}}}}}, {Name: "b", Releases: []api.Release{}}}}
	if got := check(x); got != (checked{nowhere(), api.OK}) {
		t.Errorf("Check = %v", got)
	}
	if got := Plain(x); !likeIndex(got, x) || !IsPlain(x) || !IsPlain(api.Index{Packs: []api.Pack{}}) {
		t.Errorf("Plain = %v", got)
	}
	if len(Plain(api.Index{}).Packs) != 0 || len(Plain(api.Index{Packs: []api.Pack{}}).Packs) != 0 {
		t.Error("Plain of no packages has some")
	}
	if r, ok := Release(x, "a", api.Version{}); !ok || !likeRelease(r, x.Packs[0].Releases[0]) {
		t.Errorf("Release = %v, %v", r, ok)
	}
	if !Solves(x, []api.Dep{}, []api.Pin{}) || !Solves(x, nil, pins(api.Pin{Name: "a"})) {
		t.Error("Solves is false")
	}
}

// P9.3: a great index, whose packages and releases stand the wrong way round.
func TestPlainOfAGreatIndex(t *testing.T) {
	var x api.Index
	for i := range api.MaxNames {
		p := pack("p" + strings.Repeat("0", 5-len(strconv.Itoa(i))) + strconv.Itoa(i))
		for k := range 20 {
			p.Releases = append(p.Releases, api.Release{V: api.Version{Minor: uint64(20 - k)}})
		}
		x.Packs = append(x.Packs, p)
	}
	slices.Reverse(x.Packs)
	got := Plain(x)
	if IsPlain(x) || !IsPlain(got) || len(got.Packs) != api.MaxNames || check(got) != (checked{nowhere(), api.OK}) {
		t.Fatal("a great index isn't made plain")
	}
	for i, p := range got.Packs {
		o := x.Packs[api.MaxNames-1-i]
		slices.Reverse(o.Releases)
		if !likePack(p, o) {
			t.Fatalf("package %d is %v, want %v", i, p, o)
		}
	}
}
