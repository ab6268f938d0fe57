package clause

import (
	"math"
	"slices"
	"testing"
	"unsafe"
)

// memory is where lists lie: of each its first byte, and the one behind its room.
type memory [][2]uintptr

func add[T any](m *memory, l []T) {
	if cap(l) > 0 {
		from := uintptr(unsafe.Pointer(unsafe.SliceData(l)))
		*m = append(*m, [2]uintptr{from, from + uintptr(cap(l))*unsafe.Sizeof(*new(T))})
	}
}

func addAll[T any](m *memory, l [][]T) {
	add(m, l)
	for _, one := range l {
		add(m, one)
	}
}

// checkApart tells, if two lists of an answer share memory, or one of it and one of another.
func checkApart(t *testing.T, what string, answer, other memory) {
	t.Helper()
	for i, a := range answer {
		for _, b := range slices.Concat(answer[:i], other) {
			if a[0] < b[1] && b[0] < a[1] {
				t.Fatalf("%s: lists share memory", what)
			}
		}
	}
}

// withRoom is a list, and behind its length in its memory some more elements.
func withRoom[T any](l []T, behind ...T) []T {
	return slices.Concat(l, behind)[:len(l)]
}

// clauses are short ones, and some that are long, or clean, or hold always.
func clauses() [][]int {
	return append(lists(few(), 2), []int{1, 2, 3}, []int{1, -2, 3, -4, 5}, []int{3, -1, 3}, []int{5, 4, 3, 2, 1, 0}, []int{1, 2, -1}, []int{most, -1})
}

// R4: what is handed in stays as it was, what lies behind a list's length too, and what lies there doesn't count.
func TestWhatIsHandedInIsLeft(t *testing.T) {
	behind := []int{-1, 1, 2, -2, 3, 0, math.MinInt}
	row := []bool{true, false, true, true}
	for _, l := range clauses() {
		c, d := withRoom(l, behind...), withRoom(append([]int{-1}, l...), behind...)
		a := withRoom([]bool{false, true}, row...)
		if Good(c, 2) != Good(l, 2) || Holds(c, a) != Holds(l, []bool{false, true}) || Fails(c, a) != Fails(l, []bool{false, true}) || !clean(c).like(clean(l)) {
			t.Errorf("%v: what lies behind it counts", l)
		}
		for v := range 4 {
			if !resolve(c, d, v).like(resolve(l, append([]int{-1}, l...), v)) || !resolve(d, c, v).like(resolve(append([]int{-1}, l...), l, v)) {
				t.Errorf("%v: what lies behind it counts in Resolve by %d", l, v)
			}
		}
		all := withRoom([][]int{c, d}, nil, []int{1})
		if got := tellAll(Models(all, 3)); !slices.Equal(got, wantedModels([][]int{l, append([]int{-1}, l...)}, 3)) {
			t.Errorf("Models(%v) = %v: what lies behind it counts", all, got)
		}
		if !slices.Equal(c[:cap(c)][:len(l)+len(behind)], slices.Concat(l, behind)) || !slices.Equal(d[:len(l)+1+len(behind)], slices.Concat([]int{-1}, l, behind)) || !slices.Equal(a[:6], append([]bool{false, true}, row...)) || len(all[:4][2]) != 0 || !slices.Equal(all[:4][3], []int{1}) || !slices.Equal(all[0], l) {
			t.Errorf("%v is changed: %v, %v, %v, %v", l, c[:cap(c)], d[:cap(d)], a[:cap(a)], all[:4])
		}
	}
}

// R4: answers are new: they share no memory with what was handed in, nor with one another.
func TestAnswersAreApart(t *testing.T) {
	for _, l := range clauses() {
		c, d := withRoom(l, 7, 8), withRoom(append([]int{-1}, l...), 9)
		var in memory
		add(&in, c)
		add(&in, d)
		one, _ := Clean(c)
		two, _ := Clean(c)
		three, _ := Resolve(c, d, 1)
		four, _ := Resolve(c, d, 1)
		five, _ := Resolve([]int{1}, d, 1)
		var out memory
		for _, answer := range [][]int{one, two, three, four, five} {
			add(&out, answer)
		}
		checkApart(t, shown(l), out, in)
	}
	l := [][]int{{1, 2}, {-3, 4}}
	for vars := range 13 {
		var in, out memory
		addAll(&in, l)
		addAll(&out, Models(l, vars))
		addAll(&in, Models(l, vars))
		addAll(&in, Models(nil, min(vars, 4)))
		if vars > 8 {
			// So many lists aren't held against each other one by one.
			out = out[:20]
		}
		checkApart(t, "Models", out, in)
	}
}

// R4, R8: answers may be written over and grown; the next ones are as the first ones were.
func TestAnswersMayBeWrittenOver(t *testing.T) {
	for _, l := range clauses() {
		c, want := slices.Clone(l), wantedClean(l)
		for range 3 {
			got := clean(c)
			if !got.like(want) || !slices.Equal(c, l) {
				t.Fatalf("Clean(%v) = %v", l, got)
			}
			for i := range got.c {
				got.c[i] = 77
			}
			_ = append(got.c, 78, 79)
		}
	}
	c, d := []int{1, 2, 3}, []int{-1, 3, 4}
	for range 3 {
		got := checkResolve(t, c, d, 1)
		for i := range got.c {
			got.c[i] = 77
		}
		_ = append(got.c, 78)
	}
	for range 3 {
		l := [][]int{{1, 2}, {-2, 3}}
		m := Models(l, 3)
		if got := tellAll(m); !slices.Equal(got, []string{"011", "100", "101", "111"}) {
			t.Fatalf("%v", got)
		}
		for i := range m {
			m[i] = append(m[i], true, false)
			m[i][0] = !m[i][0]
		}
		if got := tellAll(m); !slices.Equal(got, []string{"11110", "00010", "00110", "01110"}) {
			t.Fatalf("%v", got)
		}
	}
}

// R3: beside false, and where a clause always holds, there is nothing.
func TestNothingBesideFalse(t *testing.T) {
	if out, always := Clean([]int{1, 2, -1}); out != nil && len(out) != 0 || !always {
		t.Errorf("Clean = %v", out)
	}
	for v := -4; v < 5; v++ {
		for _, l := range clauses() {
			if out, ok := Resolve(l, []int{-1, -2, 3}, v); !ok && len(out) != 0 {
				t.Errorf("Resolve(%v, .., %d) = %v", l, v, out)
			}
		}
	}
}
