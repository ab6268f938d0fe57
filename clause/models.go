package clause

// mostVars is of how many variables models are told.
const mostVars = 12

// wordVars is of how many variables a word of 64 bits has all assignments.
const wordVars = 6

// table tells of each assignment whether something holds in it, by an array's bits. An assignment is the bit of its number, which has a digit for each variable, the first one's as the greatest.
type table [1 << (mostVars - wordVars)]uint64

// digits are, by the place of a digit from the least one on, the bits of the numbers that have it, as far as a word goes.
var digits = [wordVars]uint64{0xaaaaaaaaaaaaaaaa, 0xcccccccccccccccc, 0xf0f0f0f0f0f0f0f0, 0xff00ff00ff00ff00, 0xffff0000ffff0000, 0xffffffff00000000}

// Models are all assignments to so many variables in which all clauses hold, as their numbers rise.
func Models(l [][]int, vars int) [][]bool {
	if vars < 0 || vars > mostVars {
		return nil
	}
	all := everywhere()
	for _, c := range l {
		for i, word := range where(c, vars) {
			all[i] &= word
		}
	}
	var models [][]bool
	for n := range 1 << vars {
		if all[n>>wordVars]>>(n%(1<<wordVars))&1 == 1 {
			models = append(models, assignment(n, vars))
		}
	}
	return models
}

// everywhere is the table of what holds in all assignments.
func everywhere() table {
	var t table
	for i := range len(t) {
		t[i] = ^uint64(0)
	}
	return t
}

// where is the table of a clause, over so many variables.
func where(c []int, vars int) table {
	var t table
next:
	if len(c) == 0 {
		return t
	}
	// A literal whose variable has no truth is true nowhere.
	if v := variable(c[0]); v != 0 && v <= vars {
		for i := range len(t) {
			word := having(vars-v, i)
			if c[0] < 0 {
				word = ^word
			}
			t[i] |= word
		}
	}
	c = c[1:]
	goto next
}

// having is the i-th word of the numbers that have the digit at a place.
func having(place, i int) uint64 {
	if place < wordVars {
		return digits[place]
	}
	// The greater digits are like in a whole word: they are those of the word's own number.
	if i>>(place-wordVars)&1 == 1 {
		return ^uint64(0)
	}
	return 0
}

// assignment is the one of a number.
func assignment(n, vars int) []bool {
	a := make([]bool, vars)
	for i := range vars {
		a[i] = n>>(vars-1-i)&1 == 1
	}
	return a
}
