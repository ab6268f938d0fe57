package ident

import (
	"bytes"
	"math"
	"math/big"
	"regexp"
	"slices"
	"strings"
	"testing"

	"ferrule/api"
)

// A second way of telling identifiers, which shares no code with the package.
var (
	rowBytes   = regexp.MustCompile(`\A[0-9A-Za-z.-]*`)
	identifier = regexp.MustCompile(`\A[0-9A-Za-z-]{1,255}\z`)
	digits     = regexp.MustCompile(`\A[0-9]+\z`)
	padded     = regexp.MustCompile(`\A0[0-9]+\z`)
)

type rowRead struct {
	l []string
	n int
	e api.Errno
}

func (r rowRead) like(o rowRead) bool {
	return slices.Equal(r.l, o.l) && r.n == o.n && r.e == o.e
}

func row(b []byte, at int, pre bool) rowRead {
	l, n, e := Row(b, at, pre)
	return rowRead{l, n, e}
}

func read(n int, l ...string) rowRead { return rowRead{l, n, api.OK} }

func refused(e api.Errno) rowRead { return rowRead{e: e} }

// wantedRow is what Row is to answer, by the second way.
func wantedRow(b []byte, at int, pre bool) rowRead {
	if at < 0 || at > len(b) {
		return refused(api.ErrArg)
	}
	whole := string(rowBytes.Find(b[at:]))
	l := strings.Split(whole, ".")
	for i, s := range l {
		if len(s) == 0 {
			return refused(api.ErrEmpty)
		}
		if len(s) >= 256 || i == 16 {
			return refused(api.ErrLarge)
		}
		if pre && padded.MatchString(s) {
			return refused(api.ErrForm)
		}
	}
	return rowRead{l, len(whole), api.OK}
}

// wantedGood is what Good is to answer, by the second way.
func wantedGood(l []string, pre bool) bool {
	bad := func(s string) bool { return !identifier.MatchString(s) || pre && padded.MatchString(s) }
	return len(l) < 17 && !slices.ContainsFunc(l, bad)
}

// wantedCompare is what Compare is to answer, by the second way.
func wantedCompare(a, b string) int {
	x, y := digits.MatchString(a), digits.MatchString(b)
	if x != y {
		if x {
			return -1
		}
		return 1
	}
	if !x {
		return bytes.Compare([]byte(a), []byte(b))
	}
	v, _ := new(big.Int).SetString(a, 10)
	w, _ := new(big.Int).SetString(b, 10)
	if c := v.Cmp(w); c != 0 {
		return c
	}
	return big.NewInt(int64(len(a))).Cmp(big.NewInt(int64(len(b))))
}

// textsOf is every text of at most long bytes of an alphabet.
func textsOf(alphabet string, long int) []string {
	all := []string{""}
	for from := 0; long > 0; long-- {
		to := len(all)
		for _, s := range all[from:to] {
			for i := range len(alphabet) {
				all = append(all, s+alphabet[i:i+1])
			}
		}
		from = to
	}
	return all
}

// rowsOf is every list of at most long of the texts, that without any first.
func rowsOf(texts []string, long int) [][]string {
	all := [][]string{nil}
	for from := 0; long > 0; long-- {
		to := len(all)
		for _, l := range all[from:to] {
			for _, s := range texts {
				all = append(all, append(slices.Clone(l), s))
			}
		}
		from = to
	}
	return all
}

func many(s string, n int) []string { return slices.Repeat([]string{s}, n) }

// P2.1: the row, as far as bytes of identifiers and points go, and how many bytes.
func TestRowReadsAsFarAsItGoes(t *testing.T) {
	for _, c := range []struct {
		s    string
		at   int
		pre  bool
		want rowRead
	}{
		{"alpha.1", 0, true, read(7, "alpha", "1")},
		{"alpha.1", 0, false, read(7, "alpha", "1")},
		{"1.2.3-rc.1+b", 6, true, read(4, "rc", "1")},
		{"1.2.3-rc.1+b.007", 11, false, read(5, "b", "007")},
		{"1.2.3-rc.1+b", 0, true, read(10, "1", "2", "3-rc", "1")},
		{"alpha.1", 2, true, read(5, "pha", "1")},
		{"alpha.1", 6, true, read(1, "1")},
		{"x", 0, true, read(1, "x")},
		{"0", 0, true, read(1, "0")},
		{"-", 0, true, read(1, "-")},
		{"--.-", 0, true, read(4, "--", "-")},
		{"AZaz09-", 0, true, read(7, "AZaz09-")},
		{"0.0.0", 0, true, read(5, "0", "0", "0")},
		{"0a.00b.-0.01-", 0, true, read(13, "0a", "00b", "-0", "01-")},
		{"00.01.007", 0, false, read(9, "00", "01", "007")},
		{"a b", 0, true, read(1, "a")},
		{"a.b c.d", 0, true, read(3, "a", "b")},
		{"a_b", 0, true, read(1, "a")},
		{"a\n", 0, true, read(1, "a")},
		{"a\x00", 0, true, read(1, "a")},
		{"a\u00e9", 0, true, read(1, "a")},
		{"1\u0663", 0, true, read(1, "1")},
	} {
		if got := row([]byte(c.s), c.at, c.pre); !got.like(c.want) {
			t.Errorf("Row(%q, %d, %v) = %v, want %v", c.s, c.at, c.pre, got, c.want)
		}
	}
}

// P2.1: which bytes are an identifier's; all others end the row.
func TestRowEndsAtOtherBytes(t *testing.T) {
	const own = "0123456789ABCDEFGHIJKLMNOPQRSTUVWXYZabcdefghijklmnopqrstuvwxyz-"
	for c := range 256 {
		x := string([]byte{byte(c)})
		want, alone := read(1, "a"), refused(api.ErrEmpty)
		if strings.Contains(own, x) {
			want, alone = read(3, "a"+x+"b"), read(1, x)
		}
		if c == '.' {
			want = read(3, "a", "b")
		}
		if got := row([]byte("a"+x+"b"), 0, true); !got.like(want) {
			t.Errorf("Row with byte %d in the middle = %v, want %v", c, got, want)
		}
		if got := row([]byte(x), 0, true); !got.like(alone) {
			t.Errorf("Row of byte %d alone = %v, want %v", c, got, alone)
		}
	}
}

// P2.1: ErrArg, ahead of all else.
func TestRowRefusesPlacesOutside(t *testing.T) {
	for _, s := range []string{"", "a", "..", "01", "a.b.c", "_", strings.Repeat("a", 300)} {
		for _, pre := range []bool{false, true} {
			for _, at := range []int{-1, -2, math.MinInt, len(s) + 1, len(s) + 2, math.MaxInt} {
				if got := row([]byte(s), at, pre); !got.like(refused(api.ErrArg)) {
					t.Errorf("Row(%.20q, %d, %v) = %v, want ErrArg", s, at, pre, got)
				}
			}
		}
	}
	if got := row(nil, 1, true); !got.like(refused(api.ErrArg)) {
		t.Errorf("Row(nil, 1, true) = %v, want ErrArg", got)
	}
}

// P2.1: ErrEmpty at the row's beginning, in its middle, at its end, and at the length itself.
func TestRowRefusesEmptyIdentifiers(t *testing.T) {
	for _, c := range []struct {
		s  string
		at int
	}{
		{"", 0}, {"a", 1}, {"a.b", 3}, {".", 0}, {"..", 0}, {"...", 0}, {".a", 0}, {".a.b", 0}, {"a..b", 0}, {"a.b..c", 0},
		{"a.b...c", 0}, {"a.", 0}, {"a.b.", 0}, {"a.b", 1}, {"a.+b", 0}, {"a._", 0}, {"+b", 0}, {" a", 0}, {"_a", 0}, {"\xff", 0}, {"\u00e9", 0},
		{"a." + strings.Repeat(".a", 20), 0}, {"a..01", 0}, {"a.." + strings.Repeat("b", 256), 0},
	} {
		for _, pre := range []bool{false, true} {
			if got := row([]byte(c.s), c.at, pre); !got.like(refused(api.ErrEmpty)) {
				t.Errorf("Row(%.30q, %d, %v) = %v, want ErrEmpty", c.s, c.at, pre, got)
			}
		}
	}
	if got := row(nil, 0, false); !got.like(refused(api.ErrEmpty)) {
		t.Errorf("Row(nil, 0, false) = %v, want ErrEmpty", got)
	}
}

// P2.1: ErrLarge, from 256 bytes of an identifier on.
func TestRowHoldsIdentifiersUpTo255Bytes(t *testing.T) {
	for _, x := range []string{"a", "Z", "-", "9", "0"} {
		for _, n := range []int{1, 2, 254, 255, 256, 257, 511, 512, 1000} {
			s := strings.Repeat(x, n)
			for _, ahead := range []string{"", "b.", "0.x."} {
				first := strings.Split(ahead, ".")
				want := read(len(ahead)+n, append(first[:len(first)-1:len(first)-1], s)...)
				if n > 255 {
					want = refused(api.ErrLarge)
				}
				for _, behind := range []string{"", "_.", "+c"} {
					if got := row([]byte(ahead+s+behind), 0, false); !got.like(want) {
						t.Errorf("Row of %q and %d times %s = %d bytes, error %d", ahead, n, x, got.n, got.e)
					}
				}
			}
		}
	}
	long := bytes.Repeat([]byte("7"), api.MaxInput)
	if got := row(long, 0, true); !got.like(refused(api.ErrLarge)) {
		t.Errorf("Row of MaxInput digits: %d bytes, error %d", got.n, got.e)
	}
	if got := row(long, len(long)-255, true); !got.like(read(255, string(long[:255]))) {
		t.Errorf("Row of the last 255 of MaxInput digits: %d bytes, error %d", got.n, got.e)
	}
	if got := row(long, len(long)-256, true); !got.like(refused(api.ErrLarge)) {
		t.Errorf("Row of the last 256 of MaxInput digits: %d bytes, error %d", got.n, got.e)
	}
}

// P2.1: ErrLarge of the 17th identifier.
func TestRowHoldsUpTo16Identifiers(t *testing.T) {
	for n := 1; n <= 40; n++ {
		for _, x := range []string{"a", "0", strings.Repeat("-", 255)} {
			s := strings.Join(many(x, n), ".")
			want := rowRead{many(x, n), len(s), api.OK}
			if n > 16 {
				want = refused(api.ErrLarge)
			}
			for _, pre := range []bool{false, true} {
				if got := row([]byte(s), 0, pre); !got.like(want) {
					t.Errorf("Row of %d identifiers = %d identifiers, %d bytes, error %d", n, len(got.l), got.n, got.e)
				}
			}
		}
	}
	if got := row(bytes.Repeat([]byte("a."), api.MaxInput/2), 0, true); !got.like(refused(api.ErrLarge)) {
		t.Errorf("Row of MaxInput bytes of identifiers: %d bytes, error %d", got.n, got.e)
	}
}

// P2.1: ErrForm, if pre, of numeric identifiers that are no numerals.
func TestRowRefuses0sInFrontAheadOfRelease(t *testing.T) {
	for _, s := range []string{
		"00", "01", "007", "000", "a.00", "a.b.01", "0.00", "01.a", "01_", "00+b", "0" + strings.Repeat("9", 254), strings.Repeat("0", 255),
	} {
		if got := row([]byte(s), 0, true); !got.like(refused(api.ErrForm)) {
			t.Errorf("Row(%.30q, 0, true) = %v, want ErrForm", s, got)
		}
		if got := row([]byte(s), 0, false); !got.like(wantedRow([]byte(s), 0, false)) || got.e != api.OK {
			t.Errorf("Row(%.30q, 0, false) = %v", s, got)
		}
	}
	for _, s := range []string{"0", "10", "100", "0a", "00a", "0-", "-01", "9" + strings.Repeat("0", 254), strings.Repeat("9", 255)} {
		if got := row([]byte(s), 0, true); !got.like(read(len(s), s)) {
			t.Errorf("Row(%.30q, 0, true) = %v", s, got)
		}
	}
}

// P2.1 and R2: the first identifier at fault is told, and of it the first error.
func TestRowTellsTheFirstFault(t *testing.T) {
	long, zeros := strings.Repeat("a", 256), strings.Repeat("0", 256)
	full := strings.Repeat("a.", 16)
	for _, c := range []struct {
		s    string
		want api.Errno
	}{
		{"01..b", api.ErrForm}, {"a..01", api.ErrEmpty}, {"01." + long, api.ErrForm}, {long + ".01", api.ErrLarge},
		{long + "..", api.ErrLarge}, {"." + long, api.ErrEmpty}, {zeros, api.ErrLarge}, {"a." + zeros, api.ErrLarge},
		{full, api.ErrEmpty}, {full + ".a", api.ErrEmpty}, {full + "_", api.ErrEmpty}, {full + "01", api.ErrLarge}, {full + long, api.ErrLarge},
		{full + "a.", api.ErrLarge}, {full + "a..b", api.ErrLarge}, {full[2:] + "01.a", api.ErrForm}, {full[2:] + ".a", api.ErrEmpty},
		{full[2:] + zeros + ".a", api.ErrLarge}, {"01." + full + "a", api.ErrForm}, {"." + full + "a", api.ErrEmpty},
	} {
		if got := row([]byte(c.s), 0, true); !got.like(refused(c.want)) {
			t.Errorf("Row(%.50q, 0, true) = %v, want error %d", c.s, got, c.want)
		}
	}
}

// P2.1, of all short texts, at all places.
func TestRowOfAllShortTexts(t *testing.T) {
	for _, s := range textsOf("01aZ-._", 5) {
		for at := -1; at <= len(s)+1; at++ {
			for _, pre := range []bool{false, true} {
				want := wantedRow([]byte(s), at, pre)
				if got := row([]byte(s), at, pre); !got.like(want) {
					t.Fatalf("Row(%q, %d, %v) = %v, want %v", s, at, pre, got, want)
				}
			}
		}
	}
}

// R4: what lies behind the length isn't read, nothing is written, and the answer is new.
func TestRowLeavesMemoryAlone(t *testing.T) {
	whole := []byte("x-a.b.c")
	if got := row(whole[:3], 2, true); !got.like(read(1, "a")) {
		t.Errorf("Row reads behind the length: %v", got)
	}
	if got := row(whole[:2], 2, true); !got.like(refused(api.ErrEmpty)) {
		t.Errorf("Row reads behind the length: %v", got)
	}
	if got := row(whole[:2], 3, true); !got.like(refused(api.ErrArg)) {
		t.Errorf("Row takes a place behind the length: %v", got)
	}
	one, two := row(whole, 2, true), row(whole, 2, true)
	if string(whole) != "x-a.b.c" {
		t.Errorf("Row wrote: %q", whole)
	}
	copy(whole, "0123456")
	one.l = append(one.l, "d")
	one.l[0] = "z"
	if !two.like(read(5, "a", "b", "c")) {
		t.Errorf("a row changed by another one, or by the bytes: %v", two)
	}
}

// P2.2: Text, of lists that are no rows too.
func TestTextPutsPointsBetween(t *testing.T) {
	for _, c := range []struct {
		l    []string
		want string
	}{
		{nil, ""}, {[]string{}, ""}, {[]string{"a"}, "a"}, {[]string{"alpha", "1"}, "alpha.1"}, {[]string{"0", "-", "007"}, "0.-.007"},
		{[]string{""}, ""}, {[]string{"", ""}, "."}, {[]string{"a", "", "b"}, "a..b"}, {[]string{"a.b", "\xff_"}, "a.b.\xff_"},
		{many("ab", 17), strings.Repeat("ab.", 16) + "ab"}, {many("", 1000), strings.Repeat(".", 999)},
		{[]string{"a", strings.Repeat("b", 300)}, "a." + strings.Repeat("b", 300)},
	} {
		if got := Text(c.l); got != c.want {
			t.Errorf("Text(%.60q) = %.60q", c.l, got)
		}
	}
	l := []string{"a", "b", "c"}
	if got := Text(l[:2]); got != "a.b" || !slices.Equal(l, []string{"a", "b", "c"}) {
		t.Errorf("Text reads behind the length, or writes: %q, %q", got, l)
	}
}

// P2.2: Good.
func TestGoodTellsRows(t *testing.T) {
	long := strings.Repeat("a", 255)
	for _, l := range [][]string{
		nil, {}, {"a"}, {"0"}, {"-"}, {"alpha", "1"}, {"0", "0"}, {"00a", "0-", "-0"}, {"AZaz09-"}, {long}, {strings.Repeat("9", 255)},
		many("a", 16), many(long, 16), many("0", 16),
	} {
		if !Good(l, true) || !Good(l, false) {
			t.Errorf("Good(%.60q) is false", l)
		}
	}
	for _, l := range [][]string{
		{""}, {"", ""}, {"a", ""}, {"", "a"}, {"a", "", "b"}, {"a.b"}, {"."}, {"a."}, {"_"}, {"a_"}, {"_a"}, {"a", "b_", "c"}, {"a b"}, {"a+"}, {"a\n"},
		{"a\x00"}, {"\xff"}, {"\u00e9"}, {"\u0663"}, {"1\u0663"}, {long + "a"}, {"b", long + "a"}, {strings.Repeat("9", 256)}, {long + "_"}, {long + long},
		many("a", 17), many("0", 17), many("a", 1000), append(many("a", 16), ""), append(many("a", 15), "_"),
	} {
		if Good(l, true) || Good(l, false) {
			t.Errorf("Good(%.60q) is true", l)
		}
	}
	for _, l := range [][]string{
		{"00"}, {"01"}, {"007"}, {"a", "00"}, {"00", "a"}, {"0", "01"}, append(many("a", 15), "01"), {"0" + strings.Repeat("9", 254)}, {strings.Repeat("0", 255)},
	} {
		if Good(l, true) || !Good(l, false) {
			t.Errorf("Good(%.60q) doesn't tell rows ahead of release from others", l)
		}
	}
	for c := range 256 {
		s := string([]byte{byte(c)})
		if want := identifier.MatchString(s); Good([]string{s}, true) != want || Good([]string{"a" + s + "b"}, false) != want {
			t.Errorf("Good of byte %d isn't %v", c, want)
		}
	}
}

// P2.2, of all lists of few short texts; of a list with more behind its length too.
func TestGoodOfAllShortLists(t *testing.T) {
	for _, l := range rowsOf(textsOf("01a._", 2), 2) {
		for _, pre := range []bool{false, true} {
			if got := Good(l, pre); got != wantedGood(l, pre) {
				t.Fatalf("Good(%q, %v) = %v", l, pre, got)
			}
			kept := append(slices.Clone(l), "_")
			if got := Good(kept[:len(l)], pre); got != wantedGood(l, pre) || kept[len(l)] != "_" || !slices.Equal(kept[:len(l)], l) {
				t.Fatalf("Good(%q, %v) reads behind the length, or writes", l, pre)
			}
		}
	}
}

// standing is texts in the order in which they are to stand, those that are no identifiers among them.
func standing() []string {
	nines := strings.Repeat("9", 5000)
	return []string{
		"0", "00", "000", strings.Repeat("0", 300), "1", "01", "001", "2", "9", "09", "10", "010", "11", "19", "20", "99", "099", "100", "0100",
		"9223372036854775807", "9223372036854775808", "18446744073709551615", "18446744073709551616", "018446744073709551616", "18446744073709551617",
		nines[:255], "0" + nines[:255], nines[:256], nines[:4999] + "8", nines, "0" + nines, "1" + strings.Repeat("0", 5000),
		"", "\x00", " 1", "+1", "-", "--", "-0", "-1", "-10", "-9", "-a", ".", "0.", "00a", "01a", "0a", "0b", "1-", "1.0", "10a", "1a", "9a", "A", "A0", "AA", "Aa", "Z", "_",
		"a", "a-", "a.", "a0", "a00", "a1", "a10", "a2", "aA", "aa", "ab", strings.Repeat("b", 255), strings.Repeat("b", 256), "z", "\u0663", "\xff", "\xff0",
	}
}

// P2.3: Compare; P2.4: it is an order, and 0 just of what is the same.
func TestCompareTellsHowIdentifiersStand(t *testing.T) {
	l := standing()
	for i, a := range l {
		for k, b := range l {
			want := 0
			if i < k {
				want = -1
			} else if i > k {
				want = 1
			}
			if got := Compare(a, b); got != want {
				t.Errorf("Compare(%.30q, %.30q) = %d, want %d", a, b, got, want)
			}
		}
	}
}

// P2.3, of all pairs of short texts.
func TestCompareOfAllShortTexts(t *testing.T) {
	all := textsOf("019-A._", 3)
	for _, a := range all {
		for _, b := range all {
			if got, want := Compare(a, b), wantedCompare(a, b); got != want {
				t.Fatalf("Compare(%q, %q) = %d, want %d", a, b, got, want)
			}
		}
	}
}

// P2.3: Rows.
func TestRowsTellsHowRowsStand(t *testing.T) {
	for _, c := range []struct {
		a, b []string
		want int
	}{
		{nil, nil, 0}, {nil, []string{}, 0}, {[]string{}, nil, 0}, {nil, []string{"0"}, -1}, {nil, []string{""}, -1}, {[]string{}, []string{"a", "b"}, -1},
		{[]string{"a"}, []string{"a"}, 0}, {[]string{"a"}, []string{"b"}, -1}, {[]string{"9"}, []string{"10"}, -1}, {[]string{"10"}, []string{"a"}, -1},
		{[]string{"a"}, []string{"a", "0"}, -1}, {[]string{"a", "b"}, []string{"a", "b", "c"}, -1}, {[]string{"a", "0"}, []string{"b"}, -1},
		{[]string{"a", "b", "c"}, []string{"a", "c"}, -1}, {[]string{"1", "9"}, []string{"1", "09"}, -1}, {[]string{"1", "09"}, []string{"1", "10"}, -1},
		{[]string{"01"}, []string{"1", "0"}, 1}, {[]string{"alpha"}, []string{"alpha", "1"}, -1}, {[]string{"alpha", "1"}, []string{"alpha", "beta"}, -1},
		{[]string{"alpha", "beta"}, []string{"beta"}, -1}, {[]string{"beta", "2"}, []string{"beta", "11"}, -1}, {[]string{"beta", "11"}, []string{"rc", "1"}, -1},
		{many("a", 100), many("a", 101), -1}, {many("a", 100), many("a", 100), 0}, {append(many("a", 100), "1"), append(many("a", 100), "01"), -1},
		{[]string{"a.b"}, []string{"a", "b"}, 1}, {[]string{"a", ""}, []string{"a", "1"}, 1}, {[]string{"a", ""}, []string{"a"}, 1},
	} {
		if got := Rows(c.a, c.b); got != c.want {
			t.Errorf("Rows(%.60q, %.60q) = %d, want %d", c.a, c.b, got, c.want)
		}
		if got := Rows(c.b, c.a); got != -c.want {
			t.Errorf("Rows(%.60q, %.60q) = %d, want %d", c.b, c.a, got, -c.want)
		}
	}
	l := []string{"a", "b", "c"}
	if Rows(l[:2], []string{"a", "b"}) != 0 || !slices.Equal(l, []string{"a", "b", "c"}) {
		t.Error("Rows reads behind the length, or writes")
	}
}

// P2.4: Rows is an order, and 0 just of what is the same: lists that are laid out in the order stand so, each against each.
func TestRowsIsAnOrder(t *testing.T) {
	texts := []string{"0", "00", "1", "01", "9", "10", "", "-", "0a", "A", "a", "a0", "b"}
	var laid [][]string
	var lay func(l []string, deep int)
	lay = func(l []string, deep int) {
		laid = append(laid, l)
		for _, s := range texts {
			if deep > 0 {
				lay(append(slices.Clone(l), s), deep-1)
			}
		}
	}
	lay(nil, 2)
	for i, a := range laid {
		for k, b := range laid {
			want := 0
			if i < k {
				want = -1
			} else if i > k {
				want = 1
			}
			if got := Rows(a, b); got != want {
				t.Fatalf("Rows(%q, %q) = %d, want %d", a, b, got, want)
			}
		}
	}
}

// P2.4: a good row's Text is read as it, wherever it stands.
func TestTextOfGoodRowsIsReadAsThem(t *testing.T) {
	long := strings.Repeat("x", 255)
	lists := rowsOf([]string{"0", "00", "1", "01", "10", "a", "-", "0a", "A-9", "a_", "", "a.b"}, 3)
	lists = append(lists, many("a", 16), many(long, 16), many("0", 16), many("00", 16), many("a", 17), []string{long}, []string{long + "x"})
	for _, l := range lists {
		for _, pre := range []bool{false, true} {
			s := Text(l)
			want := rowRead{l, len(s), api.OK}
			if len(l) == 0 {
				want = refused(api.ErrEmpty)
			}
			if !Good(l, pre) {
				if got := row([]byte(s), 0, pre); got.like(want) {
					t.Fatalf("%.60q isn't good, and is read: %v", l, got)
				}
				continue
			}
			for _, behind := range []string{"", "+", "_.a", " "} {
				if got := row([]byte("1.0.0-"+s+behind), 6, pre); !got.like(want) {
					t.Fatalf("Row of the Text of %.60q and %q = %v", l, behind, got)
				}
			}
		}
	}
}

// P1: whatever bytes are read, at whatever place, the answer is right or an error.
func FuzzRow(f *testing.F) {
	f.Add([]byte("alpha.1"), 0, true)
	f.Add([]byte("a..01"), 0, true)
	f.Add([]byte(strings.Repeat("a.", 17)), 1, false)
	f.Add([]byte(strings.Repeat("0", 256)), 0, true)
	f.Add([]byte{0xff, '0', 0}, 1, false)
	f.Add([]byte(nil), -1, false)
	f.Fuzz(func(t *testing.T, b []byte, at int, pre bool) {
		got := row(b, at, pre)
		if want := wantedRow(b, at, pre); !got.like(want) {
			t.Fatalf("Row(%q, %d, %v) = %v, want %v", b, at, pre, got, want)
		}
		if got.e == api.OK && (!Good(got.l, pre) || Text(got.l) != string(b[at:at+got.n])) {
			t.Fatalf("what is read isn't good, or not what was there: %q", got.l)
		}
	})
}

// P1, P2.3 and P2.4: whatever texts are compared.
func FuzzCompare(f *testing.F) {
	f.Add("9", "10")
	f.Add("01", "1")
	f.Add("", "0")
	f.Add("a", "a\xff")
	f.Add(strings.Repeat("0", 300), "00")
	f.Fuzz(func(t *testing.T, a, b string) {
		want := wantedCompare(a, b)
		if got := Compare(a, b); got != want || Compare(b, a) != -want || (got == 0) != (a == b) {
			t.Fatalf("Compare(%q, %q) = %d, want %d", a, b, got, want)
		}
		x, y := strings.Split(a, "."), strings.Split(b, ".")
		if got := Rows(x, y); got != -Rows(y, x) || (got == 0) != slices.Equal(x, y) {
			t.Fatalf("Rows(%q, %q) = %d", x, y, got)
		}
		if Text(x) != a || Good(x, true) != wantedGood(x, true) || Good(y, false) != wantedGood(y, false) {
			t.Fatalf("Text or Good of %q or %q", x, y)
		}
	})
}
