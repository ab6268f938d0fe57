package clause

import (
	"maps"
	"math"
	"math/rand/v2"
	"slices"
	"testing"
)

// resolved is what two clauses resolve to, and whether they do.
type resolved struct {
	c  []int
	ok bool
}

func resolve(c, d []int, v int) resolved {
	out, ok := Resolve(c, d, v)
	return resolved{out, ok}
}

func (a resolved) like(b resolved) bool { return slices.Equal(a.c, b.c) && a.ok == b.ok }

// wantedResolve is the second way: sets of literals are joined, and what isn't wanted is taken from them.
func wantedResolve(c, d []int, v int) resolved {
	x, y := literals(c), literals(d)
	if v <= 0 || of(v) == 0 || !x[v] || x[-v] || y[v] || !y[-v] {
		return resolved{}
	}
	maps.Copy(x, y)
	delete(x, v)
	delete(x, -v)
	if out := risen(x); !out.always {
		return resolved{out.c, true}
	}
	return resolved{}
}

// checkResolve holds what c and d resolve to by v against the second way.
func checkResolve(t *testing.T, c, d []int, v int) resolved {
	t.Helper()
	was := [][]int{slices.Clone(c), slices.Clone(d)}
	got := resolve(c, d, v)
	if want := wantedResolve(c, d, v); !got.like(want) {
		t.Fatalf("Resolve(%s, %s, %d) = %s, want %s", shown(was[0]), shown(was[1]), v, shown(got), shown(want))
	}
	if !slices.Equal(c, was[0]) || !slices.Equal(d, was[1]) {
		t.Fatalf("%s is changed: %s, %s", shown(was), shown(c), shown(d))
	}
	return got
}

// P12.4: Resolve by hand.
func TestResolveByHand(t *testing.T) {
	for i, c := range []struct {
		c, d []int
		v    int
		want []int
		ok   bool
	}{
		{[]int{1, 2}, []int{-1, 3}, 1, []int{2, 3}, true}, {[]int{1}, []int{-1}, 1, nil, true}, {[]int{1, 2}, []int{-1, 2}, 1, []int{2}, true}, {[]int{3, 1}, []int{2, -1}, 1, []int{2, 3}, true}, {[]int{1}, []int{-1, 2}, 1, []int{2}, true}, {[]int{1, -2}, []int{-1}, 1, []int{-2}, true},
		{[]int{2, 1, 3, 2}, []int{-3, 4, -1, 4}, 1, nil, false}, {[]int{1, 2, 3}, []int{1, -2, 3}, 2, []int{1, 3}, true}, {[]int{-1, 2, -3}, []int{-3, -2, -1}, 2, []int{-1, -3}, true}, {[]int{1, 1}, []int{-1, -1, -1}, 1, nil, true}, {[]int{5, 1, 1, -9}, []int{7, -1, 5}, 1, []int{5, 7, -9}, true},
		// Another variable of both is opposed: by neither of them do they resolve.
		{[]int{1, 2}, []int{-1, -2}, 1, nil, false}, {[]int{1, 2}, []int{-1, -2}, 2, nil, false}, {[]int{1, -2, 3}, []int{-1, 2, 3}, 1, nil, false},
		// One of them has it, or none, or it is the other way round.
		{[]int{1, 2}, []int{3}, 1, nil, false}, {[]int{2}, []int{-1}, 1, nil, false}, {[]int{2}, []int{3}, 1, nil, false}, {nil, nil, 1, nil, false}, {nil, []int{-1}, 1, nil, false}, {[]int{1}, nil, 1, nil, false}, {[]int{-1, 2}, []int{1, 3}, 1, nil, false}, {[]int{1, 2}, []int{1, 3}, 1, nil, false}, {[]int{-1, 2}, []int{-1, 3}, 1, nil, false},
		// One has it with its negation.
		{[]int{1, -1}, []int{-1}, 1, nil, false}, {[]int{1}, []int{-1, 1}, 1, nil, false}, {[]int{1, -1}, []int{1, -1}, 1, nil, false}, {[]int{1, -1, 2}, []int{-1, 3}, 1, nil, false}, {[]int{1, 2}, []int{-1, 3, 1}, 1, nil, false},
		// One of them always holds by another variable: so does what they would resolve to.
		{[]int{1, 2, -2}, []int{-1}, 1, nil, false}, {[]int{1}, []int{4, -1, -4}, 1, nil, false},
		// By no variable.
		{[]int{1, 2}, []int{-1, 3}, -1, nil, false}, {[]int{-1, 2}, []int{1, 3}, -1, nil, false}, {[]int{0, 1}, []int{0, 2}, 0, nil, false}, {[]int{0}, []int{0}, 0, nil, false}, {[]int{most + 1}, []int{-most - 1}, most + 1, nil, false}, {[]int{-most - 1}, []int{most + 1}, -most - 1, nil, false},
		{[]int{math.MinInt}, []int{math.MinInt}, math.MinInt, nil, false}, {[]int{math.MaxInt}, []int{-math.MaxInt}, math.MaxInt, nil, false}, {[]int{1<<32 + 1, 2}, []int{-1<<32 - 1, 3}, 1<<32 + 1, nil, false}, {[]int{1}, []int{-1}, math.MaxInt, nil, false},
		// By the greatest one, and the one ahead of it.
		{[]int{most}, []int{-most}, most, nil, true}, {[]int{most, 1}, []int{-most, -2}, most, []int{1, -2}, true}, {[]int{most, most - 1}, []int{-most, 1 - most}, most, nil, false}, {[]int{most - 1, most}, []int{1 - most, most}, most - 1, []int{most}, true},
		// What is no literal is left out.
		{[]int{0, 1, most + 1}, []int{-1, -most - 1, math.MinInt}, 1, nil, true}, {[]int{2, math.MinInt, 1}, []int{0, -1, 3, math.MaxInt}, 1, []int{2, 3}, true},
	} {
		if got := resolve(c.c, c.d, c.v); !got.like(resolved{c.want, c.ok}) {
			t.Errorf("%d: Resolve(%v, %v, %d) = %v", i, c.c, c.d, c.v, got)
		}
	}
}

// checkBothHold tells, if two clauses hold, and what they resolve to doesn't.
func checkBothHold(t *testing.T, c, d []int, v int, a []bool) {
	t.Helper()
	if out, ok := Resolve(c, d, v); ok && Holds(c, a) && Holds(d, a) && !Holds(out, a) {
		t.Fatalf("%v and %v hold at %s, but %v doesn't", c, d, shown(told(a)), out)
	}
}

// P12.4, P12.5: all short clauses, by all variables and by what is none; where both hold, what they resolve to holds.
func TestResolve(t *testing.T) {
	all, short := assignments(3), lists(few(), 2)
	count := 0
	for _, c := range short {
		for _, d := range short {
			for _, v := range []int{1, 2, 3, 4, 0, -1, -2, -3, most + 1, -most - 1, math.MinInt} {
				if got := checkResolve(t, c, d, v); !got.ok {
					continue
				}
				count++
				for _, a := range all {
					checkBothHold(t, c, d, v, a)
				}
			}
		}
	}
	if count < 100 {
		t.Errorf("only %d resolve", count)
	}
}

// P12.4: edges' literals, beside that by which clauses resolve.
func TestResolveAtEdges(t *testing.T) {
	for _, v := range slices.Concat(edges(), nones()) {
		for _, a := range slices.Concat(edges(), nones()) {
			for _, b := range []int{a, -a, 0, 7, -7, most, -most, most + 1} {
				checkResolve(t, []int{v, a}, []int{b, -v}, v)
				checkResolve(t, []int{a, v, 3}, []int{-v, b, v}, v)
				checkResolve(t, []int{a, 3, v}, []int{-3, b}, v)
				checkResolve(t, []int{-v, a}, []int{v, b}, v)
			}
		}
	}
}

// P12.4, P12.5: drawn clauses, many of which resolve, at drawn assignments.
func TestResolveDrawnClauses(t *testing.T) {
	r := rand.New(rand.NewPCG(12, 4))
	drawn := func(first int) []int {
		c := []int{first}
		for range r.IntN(6) {
			c = append(c, (1+r.IntN(8))*(1-2*(r.IntN(5)/4)))
		}
		r.Shuffle(len(c), func(i, k int) { c[i], c[k] = c[k], c[i] })
		return c
	}
	count, both := 0, 0
	for range 20000 {
		v := 1 + r.IntN(8)
		c, d := drawn(v), drawn(-v)
		if !checkResolve(t, c, d, v).ok {
			continue
		}
		count++
		for range 10 {
			a := make([]bool, r.IntN(9))
			for i := range a {
				a[i] = r.IntN(2) == 0
			}
			checkBothHold(t, c, d, v, a)
			if Holds(c, a) && Holds(d, a) {
				both++
			}
		}
	}
	if count < 2000 || both < 2000 {
		t.Errorf("%d resolve, %d times both hold", count, both)
	}
}

// P12.5: what is above the greatest variable makes no clause hold, also where an assignment goes on that far: else what is resolved, which is without it, wouldn't hold.
func TestResolveAtLongAssignments(t *testing.T) {
	a := make([]bool, most+2)
	a[most], a[most+1] = true, true
	for _, v := range []int{1, most} {
		for _, more := range []int{most + 1, -most - 1, most + 2} {
			checkBothHold(t, []int{v, more}, []int{-v}, v, a)
			checkBothHold(t, []int{v}, []int{-v, more}, v, a)
			a[v-1] = true
			checkBothHold(t, []int{v}, []int{-v, more}, v, a)
			a[v-1] = false
		}
	}
}

// P12.4: clauses of many literals.
func TestResolveManyLiterals(t *testing.T) {
	const many = 200000
	c, d := []int{1}, []int{-1}
	var want []int
	for i := 2; i < many; i++ {
		lit := i * (1 - i%2*2)
		want = append(want, lit)
		c, d = append(c, lit), append(d, want[len(want)-1-len(want)/2])
	}
	slices.Reverse(c)
	if got := resolve(c, d, 1); !got.like(resolved{want, true}) {
		t.Errorf("%s", shown(got))
	}
	d = append(d, -want[len(want)-1])
	if got := resolve(c, d, 1); !got.like(resolved{}) {
		t.Errorf("%s", shown(got))
	}
}
