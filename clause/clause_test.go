package clause

import (
	"fmt"
	"maps"
	"math"
	"math/rand/v2"
	"slices"
	"strconv"
	"strings"
	"testing"
)

// most is the greatest variable, as the chapter has it.
const most = 16777216

// shown is what stands in something, as far as it is short enough to be read.
func shown(x any) string {
	s := fmt.Sprint(x)
	return s[:min(len(s), 1000)]
}

// The second way: a literal's variable is read from its text, a clause is the set of its literals, an assignment is the set of the literals that are true in it.

// of is the variable that a literal is of; 0: none.
func of(lit int) int {
	v, err := strconv.Atoi(strings.TrimPrefix(strconv.Itoa(lit), "-"))
	if err != nil || v > most {
		return 0
	}
	return v
}

// set is literals without order.
type set map[int]bool

// literals are those of a clause that are of a variable.
func literals(c []int) set {
	s := set{}
	for _, lit := range c {
		if of(lit) != 0 {
			s[lit] = true
		}
	}
	return s
}

// truths are the literals that are true.
func truths(a []bool) set {
	s := set{}
	for i, is := range a {
		switch {
		case i == most:
			return s
		case is:
			s[i+1] = true
		default:
			s[-i-1] = true
		}
	}
	return s
}

func wantedGood(c []int, vars int) bool {
	return !slices.ContainsFunc(c, func(lit int) bool { return of(lit) == 0 || of(lit) > vars })
}

// cleaned is a clause, and whether it always holds.
type cleaned struct {
	c      []int
	always bool
}

func clean(c []int) cleaned {
	out, always := Clean(c)
	return cleaned{out, always}
}

func (a cleaned) like(b cleaned) bool { return slices.Equal(a.c, b.c) && a.always == b.always }

// risen is what is wanted of a set's literals: variable by variable.
func risen(s set) cleaned {
	vars := map[int]int{}
	for lit := range s {
		vars[of(lit)]++
	}
	var w cleaned
	for _, v := range slices.Sorted(maps.Keys(vars)) {
		switch {
		case vars[v] == 2:
			return cleaned{always: true}
		case s[v]:
			w.c = append(w.c, v)
		default:
			w.c = append(w.c, -v)
		}
	}
	return w
}

func wantedClean(c []int) cleaned { return risen(literals(c)) }

func wantedHolds(c []int, s set) bool {
	return slices.ContainsFunc(c, func(lit int) bool { return s[lit] })
}

func wantedFails(c []int, s set) bool {
	return !slices.ContainsFunc(c, func(lit int) bool { return !s[-lit] })
}

// lists are all lists of up to n elements of a list.
func lists(of []int, n int) [][]int {
	all := [][]int{nil}
	for last := all; n > 0; n-- {
		var more [][]int
		for _, l := range last {
			for _, x := range of {
				more = append(more, append(slices.Clone(l), x))
			}
		}
		all, last = append(all, more...), more
	}
	return all
}

// assignments are all of up to n variables, told by the digits of numbers.
func assignments(n int) [][]bool {
	all := [][]bool{nil}
	for vars := 1; vars <= n; vars++ {
		for i := range 1 << vars {
			all = append(all, read(fmt.Sprintf("%0*b", vars, i)))
		}
	}
	return all
}

// read is the assignment of digits: 1 is true.
func read(digits string) []bool {
	var a []bool
	for _, d := range digits {
		a = append(a, d == '1')
	}
	return a
}

// told is the digits of an assignment.
func told(a []bool) string {
	var b strings.Builder
	for _, is := range a {
		b.WriteByte(map[bool]byte{false: '0', true: '1'}[is])
	}
	return b.String()
}

// few are literals of three variables, and some that are of none.
func few() []int { return []int{1, -1, 2, -2, 3, -3, 0, most + 1, -most - 1, math.MinInt} }

// nones are numbers that are no literals.
func nones() []int {
	return []int{0, most + 1, -most - 1, most + 2, 2 * most, -2 * most, 1<<25 - 1, 1 << 31, -1 << 31, 1 << 32, -1 << 32, 1<<32 + 1, -1<<32 - 1, 1<<32 - 1, 1 << 53, math.MaxInt, -math.MaxInt, math.MinInt}
}

// edges are literals of the first and the last variables, and of some between.
func edges() []int {
	return []int{1, -1, 2, -2, 255, -256, 1 << 16, -1 << 16, most - 1, 1 - most, most, -most}
}

// P12.1: Good by hand.
func TestGoodByHand(t *testing.T) {
	for i, c := range []struct {
		c    []int
		vars int
		want bool
	}{
		{nil, 0, true}, {nil, 3, true}, {[]int{}, most, true}, {nil, -1, true}, {nil, math.MinInt, true}, {nil, math.MaxInt, true},
		{[]int{1}, 1, true}, {[]int{-1}, 1, true}, {[]int{1}, 0, false}, {[]int{-1}, 0, false}, {[]int{1}, -1, false}, {[]int{-1}, -1, false}, {[]int{-1}, math.MinInt, false},
		{[]int{0}, 0, false}, {[]int{0}, 1, false}, {[]int{0}, -1, false}, {[]int{0}, most, false}, {[]int{0}, math.MaxInt, false},
		{[]int{2}, 1, false}, {[]int{-2}, 1, false}, {[]int{-2, 2}, 2, true}, {[]int{3, 3, 3}, 3, true}, {[]int{4, -1}, 3, false}, {[]int{-1, 4}, 3, false}, {[]int{1, 0, 2}, 3, false}, {[]int{0, 1}, 3, false}, {[]int{3, -2, 1}, 3, true}, {[]int{3, -4, 1}, 3, false},
		{[]int{most}, most, true}, {[]int{-most}, most, true}, {[]int{most}, most - 1, false}, {[]int{-most}, most - 1, false}, {[]int{most - 1, 1}, most - 1, true},
		// The variables go up to the greatest one, whatever number is told.
		{[]int{most}, most + 1, true}, {[]int{-most, 1}, math.MaxInt, true}, {[]int{most + 1}, most + 1, false}, {[]int{-most - 1}, most + 1, false}, {[]int{most + 1}, math.MaxInt, false}, {[]int{-most - 1}, math.MaxInt, false},
		{[]int{math.MaxInt}, math.MaxInt, false}, {[]int{math.MinInt}, math.MaxInt, false}, {[]int{math.MinInt}, math.MinInt, false}, {[]int{math.MinInt}, 0, false}, {[]int{-math.MaxInt}, math.MaxInt, false}, {[]int{1, math.MinInt}, 1, false}, {[]int{1<<32 + 1}, 1, false},
	} {
		if got := Good(c.c, c.vars); got != c.want {
			t.Errorf("%d: Good(%v, %d) = %v", i, c.c, c.vars, got)
		}
	}
}

// P12.1: Good of all short clauses, and of every literal that stands at an edge, among others.
func TestGood(t *testing.T) {
	for _, vars := range []int{math.MinInt, -3, -1, 0, 1, 2, 3, 4, 255, 256, most - 1, most, most + 1, most + 2, 1 << 32, math.MaxInt} {
		for _, c := range lists(few(), 3) {
			if got := Good(c, vars); got != wantedGood(c, vars) {
				t.Fatalf("Good(%v, %d) = %v", c, vars, got)
			}
		}
		for _, lit := range slices.Concat(edges(), nones()) {
			for _, c := range [][]int{{lit}, {1, lit}, {lit, -1}, {1, lit, 1}} {
				if got := Good(c, vars); got != wantedGood(c, vars) {
					t.Errorf("Good(%v, %d) = %v", c, vars, got)
				}
			}
		}
	}
}

// P12.1: Clean by hand.
func TestCleanByHand(t *testing.T) {
	for i, c := range []struct {
		in     []int
		want   []int
		always bool
	}{
		{nil, nil, false}, {[]int{}, nil, false}, {[]int{0}, nil, false}, {[]int{0, 0}, nil, false}, {[]int{1}, []int{1}, false}, {[]int{-1}, []int{-1}, false},
		{[]int{3, -1, 3}, []int{-1, 3}, false}, {[]int{1, 2, 3}, []int{1, 2, 3}, false}, {[]int{3, 2, 1}, []int{1, 2, 3}, false}, {[]int{-1, -2, -3}, []int{-1, -2, -3}, false}, {[]int{-3, 2, -1}, []int{-1, 2, -3}, false}, {[]int{1, -2, 3}, []int{1, -2, 3}, false}, {[]int{10, 9, -100}, []int{9, 10, -100}, false},
		{[]int{1, 1}, []int{1}, false}, {[]int{-1, -1, -1}, []int{-1}, false}, {[]int{2, 1, 2, 1}, []int{1, 2}, false}, {[]int{-2, 1, -2, 1}, []int{1, -2}, false}, {[]int{5, 5, -4, 5, -4}, []int{-4, 5}, false},
		{[]int{1, -1}, nil, true}, {[]int{-1, 1}, nil, true}, {[]int{3, 2, -3}, nil, true}, {[]int{1, 2, -3, -2}, nil, true}, {[]int{1, 1, -1, -1}, nil, true}, {[]int{1, -1, 1}, nil, true}, {[]int{-1, 1, 2}, nil, true}, {[]int{1, 2, 3, 4, -4}, nil, true}, {[]int{0, 7, -7}, nil, true},
		{[]int{most, 1}, []int{1, most}, false}, {[]int{-most, 1}, []int{1, -most}, false}, {[]int{most, -most}, nil, true}, {[]int{most, most - 1, 0}, []int{most - 1, most}, false},
		// What is no literal is left out, and nothing's negation.
		{[]int{most + 1}, nil, false}, {[]int{-most - 1}, nil, false}, {[]int{most + 1, -most - 1}, nil, false}, {[]int{0, 1 << 25, 5}, []int{5}, false}, {[]int{0, 1, -1 << 25}, []int{1}, false}, {[]int{math.MinInt}, nil, false}, {[]int{math.MinInt, math.MinInt}, nil, false}, {[]int{math.MinInt, math.MaxInt, 2}, []int{2}, false},
		{[]int{math.MaxInt, -math.MaxInt, -1}, []int{-1}, false}, {[]int{1, math.MinInt, -2, 0}, []int{1, -2}, false}, {[]int{most + 1, 1, most}, []int{1, most}, false}, {[]int{1<<32 + 1, -1}, []int{-1}, false}, {[]int{math.MinInt, 1, -1}, nil, true}, {[]int{most + 1, 4, 0, -4}, nil, true},
	} {
		if got := clean(c.in); !got.like(cleaned{c.want, c.always}) {
			t.Errorf("%d: Clean(%v) = %v", i, c.in, got)
		}
	}
}

// P12.1: Clean of all short clauses, in whatever order their literals stand; what is clean stays as it is.
func TestClean(t *testing.T) {
	for _, c := range lists(few(), 4) {
		checkClean(t, c)
	}
	for _, a := range slices.Concat(edges(), nones()) {
		for _, b := range slices.Concat(edges(), nones()) {
			for _, c := range [][]int{{a}, {a, b}, {b, -3, a}, {a, b, a}, {a, b, -b}} {
				checkClean(t, c)
			}
		}
	}
}

// checkClean holds the clean clause of c against the second way.
func checkClean(t *testing.T, c []int) {
	t.Helper()
	was := slices.Clone(c)
	got := clean(c)
	if want := wantedClean(c); !got.like(want) {
		t.Fatalf("Clean(%s) = %s, want %s", shown(was), shown(got), shown(want))
	}
	if again := clean(got.c); !again.like(cleaned{c: got.c}) || !Good(got.c, most) {
		t.Fatalf("Clean(%s) = %s isn't clean", shown(was), shown(got))
	}
	if !slices.Equal(c, was) {
		t.Fatalf("%s is changed: %s", shown(was), shown(c))
	}
}

// P12.1: long clauses, of literals that were drawn: each order is cleaned likewise.
func TestCleanOfDrawnClauses(t *testing.T) {
	r := rand.New(rand.NewPCG(12, 1))
	always := 0
	for range 2000 {
		vars := 1 + r.IntN(60)
		var c []int
		for range r.IntN(40) {
			lit := 1 + r.IntN(vars)
			// By the variable, mostly: so many clauses don't always hold.
			if lit%3 == 0 || r.IntN(40) == 0 {
				lit = -lit
			}
			c = append(c, lit)
		}
		for range r.IntN(3) {
			c = append(c, nones()[r.IntN(len(nones()))])
		}
		checkClean(t, c)
		want := clean(c)
		r.Shuffle(len(c), func(i, k int) { c[i], c[k] = c[k], c[i] })
		if got := clean(c); !got.like(want) {
			t.Fatalf("Clean(%v) = %v, want %v", c, got, want)
		}
		if want.always {
			always++
		}
	}
	if always < 200 || always > 1800 {
		t.Errorf("%d of 2000 clauses always hold", always)
	}
}

// P12.1: more literals than could be gone through for each one of them.
func TestCleanOfManyLiterals(t *testing.T) {
	const many = 300000
	var c, want []int
	for i := range many {
		c = append(c, -(many - i), -(i + 1))
		want = append(want, -(i + 1))
	}
	if got := clean(c); !got.like(cleaned{c: want}) {
		t.Errorf("Clean of many = %s", shown(got))
	}
	if got := clean(append(c, many/2)); !got.like(cleaned{always: true}) {
		t.Errorf("Clean of many that hold = %s", shown(got))
	}
}

// P12.2: Holds and Fails by hand.
func TestHoldsAndFailsByHand(t *testing.T) {
	for i, c := range []struct {
		c            []int
		a            string
		holds, fails bool
	}{
		{nil, "", false, true}, {nil, "1", false, true}, {[]int{}, "0", false, true},
		{[]int{1}, "1", true, false}, {[]int{1}, "0", false, true}, {[]int{-1}, "0", true, false}, {[]int{-1}, "1", false, true}, {[]int{1}, "", false, false}, {[]int{-1}, "", false, false},
		{[]int{2}, "01", true, false}, {[]int{2}, "10", false, true}, {[]int{2}, "1", false, false}, {[]int{-2}, "1", false, false}, {[]int{2}, "010", true, false}, {[]int{3}, "001", true, false}, {[]int{3}, "110", false, true},
		{[]int{1, 2}, "00", false, true}, {[]int{1, 2}, "01", true, false}, {[]int{1, 2}, "10", true, false}, {[]int{1, -2}, "01", false, true}, {[]int{-1, -2}, "10", true, false}, {[]int{-1, -2}, "11", false, true},
		// An assignment that is shorter: the clause holds already, or neither.
		{[]int{1, 2}, "1", true, false}, {[]int{2, 1}, "1", true, false}, {[]int{1, 2}, "0", false, false}, {[]int{2, 1}, "0", false, false}, {[]int{-1, 3}, "01", true, false}, {[]int{1, 3}, "00", false, false}, {[]int{3, 1}, "00", false, false},
		// A variable's two literals: one is true, as soon as there is a truth.
		{[]int{1, -1}, "0", true, false}, {[]int{1, -1}, "1", true, false}, {[]int{-1, 1}, "", false, false}, {[]int{2, -2}, "1", false, false}, {[]int{1, 1}, "0", false, true}, {[]int{1, 1}, "1", true, false},
		{[]int{0}, "", false, false}, {[]int{0}, "1", false, false}, {[]int{0}, "0", false, false}, {[]int{0, 1}, "1", true, false}, {[]int{1, 0}, "1", true, false}, {[]int{0, 1}, "0", false, false}, {[]int{1, 0}, "0", false, false},
		{[]int{most}, "1", false, false}, {[]int{-most}, "0", false, false}, {[]int{most + 1, 1}, "1", true, false}, {[]int{1, most + 1}, "0", false, false}, {[]int{math.MinInt}, "10", false, false}, {[]int{math.MinInt, -1}, "0", true, false}, {[]int{-1, math.MinInt}, "1", false, false}, {[]int{math.MaxInt}, "11", false, false}, {[]int{-math.MaxInt}, "00", false, false}, {[]int{1<<32 + 1}, "1", false, false}, {[]int{-1<<32 - 1}, "0", false, false},
	} {
		a := read(c.a)
		if holds, fails := Holds(c.c, a), Fails(c.c, a); holds != c.holds || fails != c.fails {
			t.Errorf("%d: %v at %s: holds %v, fails %v", i, c.c, c.a, holds, fails)
		}
	}
}

// P12.2, P12.5: all short clauses at all short assignments, those that are shorter than the clause's variables and longer.
func TestHoldsAndFails(t *testing.T) {
	all := assignments(4)
	var sets []set
	for _, a := range all {
		sets = append(sets, truths(a))
	}
	neither := 0
	for _, c := range lists(few(), 4) {
		out := clean(c)
		for i, a := range all {
			holds, fails := Holds(c, a), Fails(c, a)
			if holds != wantedHolds(c, sets[i]) || fails != wantedFails(c, sets[i]) {
				t.Fatalf("%v at %s: holds %v, fails %v", c, told(a), holds, fails)
			}
			if !holds && !fails {
				neither++
			}
			checkCleanOneHolds(t, c, out, a, holds, fails)
		}
	}
	if neither == 0 {
		t.Error("no clause does neither")
	}
}

// checkCleanOneHolds holds what is told of a clause against what is told of its clean one.
func checkCleanOneHolds(t *testing.T, c []int, out cleaned, a []bool, holds, fails bool) {
	t.Helper()
	switch {
	case out.always:
		// There is no clean one. Wherever its variables have a truth, the clause holds, and it fails nowhere.
		if fails || !holds && Good(c, len(a)) {
			t.Fatalf("%s always holds, but at %s", shown(c), shown(told(a)))
		}
	case holds != Holds(out.c, a):
		t.Fatalf("%s at %s: holds %v, but of its clean one %v", shown(c), shown(told(a)), holds, !holds)
	case fails && !Fails(out.c, a):
		t.Fatalf("%s fails at %s, but %s doesn't", shown(c), shown(told(a)), shown(out.c))
	case len(literals(c)) > 0 && wantedGood(c, most) && fails != Fails(out.c, a):
		t.Fatalf("%s at %s: fails %v, but its clean one doesn't", shown(c), shown(told(a)), fails)
	}
}

// P12.2, P12.5: the greatest variable has a truth; what stands behind it in an assignment is no variable's.
func TestLongAssignments(t *testing.T) {
	for _, last := range []bool{false, true} {
		a := make([]bool, most+2)
		a[most-1], a[most], a[most+1] = last, last, last
		yes, no := most, -most
		if !last {
			yes, no = -most, most
		}
		for _, c := range []struct {
			c            []int
			holds, fails bool
		}{
			{[]int{yes}, true, false}, {[]int{no}, false, true}, {[]int{1, yes}, true, false}, {[]int{1, no}, false, true}, {[]int{-1, no}, true, false},
			{[]int{most + 1}, false, false}, {[]int{-most - 1}, false, false}, {[]int{most + 2}, false, false}, {[]int{-most - 2}, false, false}, {[]int{1, most + 1}, false, false}, {[]int{1, -most - 1}, false, false}, {[]int{most + 3}, false, false}, {[]int{math.MinInt}, false, false}, {[]int{most + 1, yes}, true, false}, {[]int{-most - 1, yes}, true, false}, {[]int{0, no}, false, false},
		} {
			holds, fails := Holds(c.c, a), Fails(c.c, a)
			if holds != c.holds || fails != c.fails {
				t.Errorf("%v: holds %v, fails %v, last %v", c.c, holds, fails, last)
			}
			checkCleanOneHolds(t, c.c, clean(c.c), a, holds, fails)
		}
		// Shorter by one: the greatest one has none.
		if c := []int{yes, no}; Holds(c, a[:most-1]) || Fails(c, a[:most-1]) || !Holds(c, a[:most]) {
			t.Errorf("the greatest variable's truth, last %v", last)
		}
	}
}

// P12.2, P12.5: drawn clauses at drawn assignments.
func TestDrawnClausesAtDrawnAssignments(t *testing.T) {
	r := rand.New(rand.NewPCG(12, 2))
	ends := map[string]int{}
	for range 20000 {
		a := make([]bool, r.IntN(14))
		for i := range a {
			a[i] = r.IntN(2) == 0
		}
		var c []int
		for range r.IntN(6) {
			lit := 1 + r.IntN(12)
			// Against the assignment, mostly: so many clauses fail.
			if lit <= len(a) && a[lit-1] == (r.IntN(5) > 0) || lit > len(a) && r.IntN(2) == 0 {
				lit = -lit
			}
			c = append(c, lit)
		}
		s := truths(a)
		holds, fails := Holds(c, a), Fails(c, a)
		if holds != wantedHolds(c, s) || fails != wantedFails(c, s) {
			t.Fatalf("%v at %s: holds %v, fails %v", c, told(a), holds, fails)
		}
		checkCleanOneHolds(t, c, clean(c), a, holds, fails)
		ends[fmt.Sprint(holds, fails)]++
	}
	if ends["true false"] < 2000 || ends["false true"] < 2000 || ends["false false"] < 2000 || len(ends) != 3 {
		t.Errorf("%v", ends)
	}
}

// P1: whatever numbers stand in clauses, whatever they are asked with.
func TestAnyNumbers(t *testing.T) {
	r := rand.New(rand.NewPCG(12, 3))
	number := func() int {
		switch r.IntN(4) {
		case 0:
			return int(r.Uint64())
		case 1:
			return int(r.Uint64()) >> r.IntN(64)
		case 2:
			return slices.Concat(edges(), nones())[r.IntN(len(edges())+len(nones()))]
		}
		return r.IntN(9) - 4
	}
	clause := func() (c []int) {
		for range r.IntN(7) {
			c = append(c, number())
		}
		return c
	}
	for range 20000 {
		c, d, v, a := clause(), clause(), number(), make([]bool, r.IntN(5))
		if vars := number(); Good(c, vars) != wantedGood(c, vars) {
			t.Fatalf("Good(%v, %d)", c, vars)
		}
		checkClean(t, c)
		if s := truths(a); Holds(c, a) != wantedHolds(c, s) || Fails(c, a) != wantedFails(c, s) {
			t.Fatalf("%v at %s", c, told(a))
		}
		checkResolve(t, c, d, v)
		if vars := number(); vars < 0 || vars > 12 {
			checkModels(t, [][]int{c, d}, vars)
		}
		checkModels(t, [][]int{c, d}, r.IntN(6))
	}
}
