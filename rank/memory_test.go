package rank

import (
	"math/rand/v2"
	"slices"
	"testing"
	"unsafe"

	"ferrule/api"
)

// memory is where the lists of an answer, or of what is handed in, lie: of each its first byte, and the one behind its room.
type memory [][2]uintptr

func roomOf[T any](l []T) [2]uintptr {
	from := uintptr(unsafe.Pointer(unsafe.SliceData(l)))
	return [2]uintptr{from, from + uintptr(cap(l))*unsafe.Sizeof(*new(T))}
}

func add[T any](m *memory, l []T) {
	if cap(l) > 0 {
		*m = append(*m, roomOf(l))
	}
}

func (m *memory) version(v api.Version) {
	add(m, v.Pre)
	add(m, v.Build)
}

func (m *memory) oneRange(r api.Range) {
	m.version(r.V)
	add(m, r.L)
	for _, one := range r.L {
		m.oneRange(one)
	}
}

func (m *memory) release(r api.Release) {
	m.version(r.V)
	for _, l := range [][]api.Dep{r.Needs, r.Bans} {
		add(m, l)
		for _, d := range l {
			m.oneRange(d.R)
		}
	}
}

func (m *memory) index(x api.Index) {
	add(m, x.Packs)
	for _, p := range x.Packs {
		add(m, p.Releases)
		for _, r := range p.Releases {
			m.release(r)
		}
	}
}

// checkApart tells, if two lists of an answer share memory, or one of it and one of another.
func checkApart(t *testing.T, what string, answer, other memory) {
	t.Helper()
	for i, a := range answer {
		for _, b := range slices.Concat(answer[:i], other) {
			if a[0] < b[1] && b[0] < a[1] {
				t.Errorf("%s: lists share memory", what)
			}
		}
	}
}

// overVersion, and those behind it, write over all that something has, and add an element to every list of it.
func overVersion(v *api.Version) {
	v.Major++
	for _, l := range []*[]string{&v.Pre, &v.Build} {
		for i := range *l {
			(*l)[i] += "x"
		}
		*l = append(*l, "new")
	}
}

func overRange(r *api.Range) {
	r.Kind++
	overVersion(&r.V)
	for i := range r.L {
		overRange(&r.L[i])
	}
	r.L = append(r.L, api.Range{Kind: 12})
}

func overRelease(r *api.Release) {
	overVersion(&r.V)
	r.Yanked = !r.Yanked
	for _, l := range []*[]api.Dep{&r.Needs, &r.Bans} {
		for i := range *l {
			(*l)[i].Name += "x"
			overRange(&(*l)[i].R)
		}
		*l = append(*l, api.Dep{Name: "new"})
	}
}

func overIndex(x *api.Index) {
	for i := range x.Packs {
		p := &x.Packs[i]
		p.Name += "x"
		for k := range p.Releases {
			overRelease(&p.Releases[k])
		}
		p.Releases = append(p.Releases, api.Release{Yanked: true})
	}
	x.Packs = append(x.Packs, api.Pack{Name: "new"})
}

func overRuns(l []api.Run) {
	for i := range l {
		l[i] = api.Run{From: -7, To: 99}
	}
	_ = append(l, api.Run{From: 5, To: 50})
}

// roomy is an index whose lists have more memory behind their lengths, much of it in common; and what that memory is.
func roomy() (x api.Index, behind api.Index, texts []string) {
	texts = []string{"rc", "2", "b", "z"}
	v := func(major uint64) api.Version {
		return api.Version{Major: major, Pre: texts[:2], Build: texts[2:3]}
	}
	ranges := []api.Range{{Kind: api.RangeGe, V: v(1)}, {Kind: api.RangeNe, V: v(7)}, {Kind: 99}, {Kind: 98, L: make([]api.Range, 3)}}
	both := api.Range{Kind: api.RangeAnd, L: ranges[:2]}
	either := api.Range{Kind: api.RangeOr, L: []api.Range{both, both, {Kind: api.RangeEq, V: v(0), L: ranges[:0]}}}
	l := []api.Dep{{Name: "a", R: both}, {Name: "b", R: either}, {Name: "A"}, {Name: "-", R: ranges[3]}}
	others := []api.Dep{{Name: "app", R: either}, {Name: "A"}}
	releases := []api.Release{{V: v(2), Needs: l[:2], Bans: l[:0]}, {V: v(1), Needs: l[:1], Bans: others[:1]}, {V: v(1)}, {V: v(0), Yanked: true}}
	packs := []api.Pack{packOf("b"), packOf("a"), packOf("ab"), packOf("a"), packOf("A")}
	packs[0].Releases, packs[1].Releases, packs[2].Releases = releases[:2], releases[:2], releases[:0]
	return api.Index{Packs: packs[:3]}, api.Index{Packs: append(packs, api.Pack{Releases: append(releases, api.Release{Needs: l, Bans: []api.Dep{{R: api.Range{L: ranges}}}})})}, texts
}

// everything is all that a table tells, as a text of its own.
func everything(y *Table, r api.Range) string {
	var all []any
	for p := -1; p <= y.Len(); p++ {
		at, ok := y.Find(y.Name(p))
		all = append(all, y.Name(p), at, ok, y.Size(p), y.Runs(p, r))
		for k := -1; k <= y.Size(p); k++ {
			one, ok := y.Release(p, k)
			at, there := y.Rank(p, one.V)
			all = append(all, one, ok, at, there, y.Open(p, k))
		}
	}
	return whole(append(all, y.Len(), y.Index()))
}

// R4: what is handed in is left as it was, and what lies behind its lists' lengths is neither read nor written.
func TestIndexesAreLeftAsTheyWere(t *testing.T) {
	x, behind, texts := roomy()
	own, was := ownIndex(x), ownIndex(behind)
	r, v := x.Packs[0].Releases[0].Needs[1].R, x.Packs[0].Releases[1].V
	y := New(x)
	if y == nil {
		t.Fatal("New = nil")
	}
	other := New(own)
	if got, want := everything(y, r), everything(other, ownRange(r)); got != want {
		t.Errorf("it hangs on what lies behind a length: %s, %s", got, want)
	}
	if k := told(y.Rank(2, v)); k != told(0, true) {
		t.Errorf("Rank = %v", k)
	}
	if l := y.Runs(2, r); !equal(l, runsOf(run(0, 2))) {
		t.Errorf("Runs = %v", l)
	}
	if k := told(y.Rank(1, v)); k.ok || y.Size(1) != 0 {
		t.Error("a release behind a length is ranked")
	}
	if !likeIndex(behind, was) || !slices.Equal(texts, []string{"rc", "2", "b", "z"}) {
		t.Errorf("what was handed in is changed: %s", shown(behind))
	}
	rows := runsOf(run(3, 5), run(7, 9), run(0, 99))
	if In(rows[:2], 6) || !In(rows[:2], 8) || In(rows[:0], 4) || !equal(rows, runsOf(run(3, 5), run(7, 9), run(0, 99))) {
		t.Error("In hangs on what lies behind a length")
	}
}

// R4: what is handed in isn't kept.
func TestNothingIsKept(t *testing.T) {
	r := rand.New(rand.NewPCG(11, 6))
	for range 30 {
		x, one := drawnIndex(r), drawnRange(r, 2)
		y := New(x)
		want := everything(y, ownRange(one))
		asked := ownRange(one)
		if got := everything(y, asked); got != want {
			t.Fatalf("%s, want %s", got, want)
		}
		overRange(&asked)
		overIndex(&x)
		if got := everything(y, one); got != want {
			t.Fatalf("%s, want %s", shown(got), shown(want))
		}
	}
}

// R4: what is answered is new memory: it may be written over and grown, and nothing else changes by it.
func TestAnswersAreNewMemory(t *testing.T) {
	x, _, _ := roomy()
	r := rand.New(rand.NewPCG(11, 7))
	for i := range 30 {
		if i > 0 {
			x = drawnIndex(r)
		}
		was, one := ownIndex(x), drawnRange(r, 2)
		y := New(x)
		want := everything(y, one)
		checkAnswersApart(t, x, y, one)
		for p := range y.Len() {
			for k := range y.Size(p) {
				got, _ := y.Release(p, k)
				overRelease(&got)
			}
			overRuns(y.Runs(p, one))
		}
		all := y.Index()
		overIndex(&all)
		if got := everything(y, one); got != want {
			t.Fatalf("%s, want %s", shown(got), shown(want))
		}
		if !likeIndex(x, was) {
			t.Fatalf("%s is changed: %s", shown(was), shown(x))
		}
	}
}

// checkAnswersApart tells, if an answer shares memory with what was handed in, with the table, or with an answer ahead of it.
func checkAnswersApart(t *testing.T, x api.Index, y *Table, r api.Range) {
	t.Helper()
	var others memory
	others.index(x)
	others.oneRange(r)
	var own memory
	own.index(y.index)
	checkApart(t, "the table", own, others)
	others = append(others, own...)
	for p := range y.Len() {
		for k := range y.Size(p) {
			one, _ := y.Release(p, k)
			again, _ := y.Release(p, k)
			var m, other memory
			m.release(one)
			other.release(again)
			checkApart(t, "Release", m, append(other, others...))
		}
		var m, other memory
		add(&m, y.Runs(p, r))
		add(&other, y.Runs(p, r))
		checkApart(t, "Runs", m, append(other, others...))
	}
	var m, other memory
	m.index(y.Index())
	other.index(y.Index())
	checkApart(t, "Index", m, append(other, others...))
}
