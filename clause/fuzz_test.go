package clause

import (
	"encoding/binary"
	"math"
	"slices"
	"testing"
)

// drawnClauses are clauses that bytes tell: mostly of a few variables, 15 ends one, and 14 takes the next eight bytes as a number.
func drawnClauses(b []byte) [][]int {
	numbers := slices.Concat(few(), []int{4, -4, 5, -5})
	l := [][]int{nil}
	for len(b) > 0 {
		x := int(b[0] & 15)
		b = b[1:]
		last := &l[len(l)-1]
		switch {
		case x == 15:
			l = append(l, nil)
		case x < 14:
			*last = append(*last, numbers[x])
		case len(b) >= 8:
			*last = append(*last, int(binary.LittleEndian.Uint64(b)))
			b = b[8:]
		}
	}
	return l
}

// P1, P12.1, P12.2, P12.4, P12.5: whatever clauses, assignments and variables.
func FuzzClauses(f *testing.F) {
	f.Add([]byte{0, 2, 15, 1, 4}, "010", 1)
	f.Add([]byte{0, 1, 2, 3, 4, 5, 15, 6, 7, 8, 9}, "", 0)
	f.Add([]byte{14, 255, 255, 255, 255, 255, 255, 255, 127, 0, 15, 1, 3}, "11", math.MinInt)
	f.Fuzz(func(t *testing.T, b []byte, digits string, v int) {
		l, a := drawnClauses(b), read(digits[:min(len(digits), 20)])
		s := truths(a)
		for _, c := range l {
			holds, fails := Holds(c, a), Fails(c, a)
			if Good(c, v) != wantedGood(c, v) || holds != wantedHolds(c, s) || fails != wantedFails(c, s) {
				t.Fatalf("%v at %s: holds %v, fails %v", c, told(a), holds, fails)
			}
			checkClean(t, c)
			checkCleanOneHolds(t, c, clean(c), a, holds, fails)
			for _, by := range []int{v, 1 + v&3} {
				checkResolve(t, l[0], c, by)
				checkBothHold(t, l[0], c, by, a)
			}
		}
	})
}

// P1, P12.3: whatever clauses have models.
func FuzzModels(f *testing.F) {
	f.Add([]byte{0, 2, 15, 1, 4}, 3)
	f.Add([]byte{}, 12)
	f.Add([]byte{14, 255, 255, 255, 255, 255, 255, 255, 127, 0, 15, 1, 3}, 13)
	f.Fuzz(func(t *testing.T, b []byte, vars int) {
		l := drawnClauses(b[:min(len(b), 100)])
		checkModels(t, l, vars)
		checkModels(t, l, vars&7)
	})
}
