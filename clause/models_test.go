package clause

import (
	"math"
	"math/rand/v2"
	"slices"
	"strings"
	"testing"
)

// tellAll is the digits of assignments.
func tellAll(l [][]bool) []string {
	var all []string
	for _, a := range l {
		all = append(all, told(a))
	}
	return all
}

// counted is all rows of so many digits, as they stand: those that begin with 0 ahead of those that begin with 1.
func counted(n int) []string {
	if n == 0 {
		return []string{""}
	}
	var all []string
	for _, first := range []string{"0", "1"} {
		for _, s := range counted(n - 1) {
			all = append(all, first+s)
		}
	}
	return all
}

// wantedModels is the second way: of all rows those in which no clause is left without a true literal.
func wantedModels(l [][]int, vars int) []string {
	if vars < 0 || vars > 12 {
		return nil
	}
	return slices.DeleteFunc(counted(vars), func(s string) bool {
		is := truths(read(s))
		return slices.ContainsFunc(l, func(c []int) bool { return !wantedHolds(c, is) })
	})
}

// checkModels holds the models against the second way; how many they are.
func checkModels(t *testing.T, l [][]int, vars int) int {
	t.Helper()
	was := make([][]int, 0, len(l))
	for _, c := range l {
		was = append(was, slices.Clone(c))
	}
	got := tellAll(Models(l, vars))
	if want := wantedModels(l, vars); !slices.Equal(got, want) {
		t.Fatalf("Models(%s, %d) = %s, want %s", shown(l), vars, shown(got), shown(want))
	}
	if !slices.EqualFunc(l, was, slices.Equal) {
		t.Fatalf("%s is changed: %s", shown(was), shown(l))
	}
	return len(got)
}

// P12.3: Models by hand.
func TestModelsByHand(t *testing.T) {
	for i, c := range []struct {
		l    [][]int
		vars int
		want string
	}{
		{nil, 1, "0 1"}, {nil, 2, "00 01 10 11"}, {[][]int{}, 3, "000 001 010 011 100 101 110 111"},
		{[][]int{{1}}, 1, "1"}, {[][]int{{-1}}, 1, "0"}, {[][]int{{1}, {-1}}, 1, ""}, {[][]int{{1, -1}}, 1, "0 1"}, {[][]int{{}}, 1, ""}, {[][]int{{1}, nil}, 1, ""}, {[][]int{nil, {1}}, 1, ""}, {[][]int{{0}}, 1, ""}, {[][]int{{0, -1}}, 1, "0"}, {[][]int{{2}}, 1, ""}, {[][]int{{-2}}, 1, ""}, {[][]int{{2, -1}}, 1, "0"},
		{[][]int{{1, 2}, {-1, -2}}, 2, "01 10"}, {[][]int{{1}}, 2, "10 11"}, {[][]int{{2}}, 2, "01 11"}, {[][]int{{-1}}, 2, "00 01"}, {[][]int{{-2}}, 2, "00 10"}, {[][]int{{1, 1}, {1}}, 2, "10 11"}, {[][]int{{1, 2}, {-1, 2}}, 2, "01 11"},
		{[][]int{{1}}, 3, "100 101 110 111"}, {[][]int{{3}}, 3, "001 011 101 111"}, {[][]int{{1, 2, 3}, {-1, -2}, {-1, -3}, {-2, -3}}, 3, "001 010 100"}, {[][]int{{-1, 2}, {-2, 3}}, 3, "000 001 011 111"},
		{[][]int{{most + 1}}, 1, ""}, {[][]int{{most, -1}}, 1, "0"}, {[][]int{{math.MinInt, 1}}, 1, "1"}, {[][]int{{math.MaxInt, -math.MaxInt}}, 1, ""}, {[][]int{{1<<32 + 1}}, 1, ""}, {[][]int{{math.MinInt}}, 2, ""},
	} {
		if got := strings.Join(tellAll(Models(c.l, c.vars)), " "); got != c.want {
			t.Errorf("%d: Models(%v, %d) = %s", i, c.l, c.vars, got)
		}
	}
}

// P12.3: of no variables there is one assignment, the empty one: no clause holds in it.
func TestModelsOfNoVariables(t *testing.T) {
	for _, l := range [][][]int{nil, {}} {
		if m := Models(l, 0); len(m) != 1 || len(m[0]) != 0 {
			t.Errorf("Models(%v, 0) = %v", l, m)
		}
	}
	for _, c := range [][]int{nil, {}, {0}, {1}, {-1}, {1, -1}, {most}, {math.MinInt}} {
		if m := Models([][]int{c}, 0); len(m) != 0 {
			t.Errorf("Models of %v = %v", c, m)
		}
	}
}

// P12.3: of more than 12 variables, and of fewer than none, there is nothing, whatever clauses there are.
func TestModelsOfTooManyVariables(t *testing.T) {
	for _, vars := range []int{-1, -2, -12, -64, math.MinInt, math.MinInt + 1, -1 << 32, 13, 14, 63, 64, 65, 128, most, 1 << 32, 1<<32 + 1, math.MaxInt} {
		for _, l := range [][][]int{nil, {{1}}, {{}}, {{1, -1}, {13}}} {
			if m := Models(l, vars); len(m) != 0 {
				t.Errorf("Models(%v, %d) has %d", l, vars, len(m))
			}
		}
	}
	if n := len(Models(nil, 12)); n != 4096 {
		t.Errorf("12 variables have %d assignments", n)
	}
}

// P12.3: of each number of variables: no clause, and each literal by itself, and each two.
func TestModelsOfLiterals(t *testing.T) {
	for vars := range 13 {
		if n := checkModels(t, nil, vars); n != 1<<vars {
			t.Errorf("%d variables have %d assignments", vars, n)
		}
		for v := 1; v <= vars+1; v++ {
			for _, lit := range []int{v, -v} {
				n := checkModels(t, [][]int{{lit}}, vars)
				if half := 1 << vars / 2; v <= vars && n != half || v > vars && n != 0 {
					t.Errorf("%d holds in %d of %d variables", lit, n, vars)
				}
				other := 1 + (v*5+3)%12
				checkModels(t, [][]int{{lit, -other}}, vars)
				checkModels(t, [][]int{{other, lit}, {-lit, -other}}, vars)
			}
		}
	}
}

// P12.3: all choices of a few clauses over two variables.
func TestModelsOfAllChoices(t *testing.T) {
	clauses := [][]int{{1}, {-1}, {2}, {-2}, {1, 2}, {-2, 1}, {-1, 2}, {-1, -2}, {1, -1}, {0, 2}, {3, 1}}
	for choice := range 1 << len(clauses) {
		var l [][]int
		for i, c := range clauses {
			if choice>>i&1 == 1 {
				l = append(l, c)
			}
		}
		for vars := range 4 {
			checkModels(t, l, vars)
		}
	}
}

// P12.3, P12.5: drawn clauses, over each number of variables: whether they are clean or not, they have the same models; and what resolves takes none of them.
func TestModelsOfDrawnClauses(t *testing.T) {
	r := rand.New(rand.NewPCG(12, 5))
	none, some := 0, 0
	for i := range 400 {
		vars := i % 13
		var l [][]int
		for range r.IntN(3 * (vars + 1)) {
			var c []int
			for range 1 + r.IntN(5) {
				c = append(c, (1+r.IntN(vars+1))*(1-2*r.IntN(2)))
			}
			l = append(l, c)
		}
		if n := checkModels(t, l, vars); n == 0 {
			none++
		} else if n < 1<<vars {
			some++
		}
		checkSameModels(t, l, vars)
	}
	if none < 50 || some < 50 {
		t.Errorf("%d have no model, %d have some", none, some)
	}
}

// checkSameModels tells, if clean clauses, or those that resolve from them, have other models.
func checkSameModels(t *testing.T, l [][]int, vars int) {
	t.Helper()
	var more [][]int
	for _, c := range l {
		out, always := Clean(c)
		if !always {
			more = append(more, out)
		} else if Good(c, vars) {
			continue
		} else {
			more = append(more, c)
		}
	}
	want := tellAll(Models(l, vars))
	if got := tellAll(Models(more, vars)); !slices.Equal(got, want) {
		t.Fatalf("clean clauses of %v have other models: %v, not %v", l, shown(got), shown(want))
	}
	for _, c := range more {
		for _, d := range more {
			for v := range vars + 2 {
				if out, ok := Resolve(c, d, v); ok {
					l = append(l, out)
				}
			}
		}
	}
	if got := tellAll(Models(l, vars)); !slices.Equal(got, want) {
		t.Fatalf("with what resolves %v has other models: %v, not %v", l, shown(got), shown(want))
	}
}

// P12.3: many clauses, and long ones.
func TestModelsOfManyClauses(t *testing.T) {
	// All rows but the last one are taken away, each by a clause that fails in it alone, and each of them a hundred times.
	var l [][]int
	rows := counted(12)
	for _, s := range slices.Repeat(rows[:4095], 100) {
		var c []int
		for i, is := range read(s) {
			if is {
				c = append(c, -i-1)
			} else {
				c = append(c, i+1)
			}
		}
		l = append(l, c)
	}
	if got := tellAll(Models(l, 12)); !slices.Equal(got, rows[4095:]) {
		t.Errorf("%s", shown(got))
	}
	if got := tellAll(Models([][]int{slices.Repeat([]int{12, 13, 0}, 500000)}, 12)); len(got) != 2048 || got[0] != "000000000001" {
		t.Errorf("%s", shown(got))
	}
}
