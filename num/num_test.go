package num

import (
	"bytes"
	"math"
	"math/big"
	"regexp"
	"strings"
	"testing"

	"ferrule/api"
)

// A second way of telling numerals, which shares no code with the package.
var numeral = regexp.MustCompile(`\A(0|[1-9][0-9]*)\z`)

const maxField = "9223372036854775807"

type parsed struct {
	v uint64
	n int
	e api.Errno
}

func parse(b []byte, at int) parsed {
	v, n, e := Parse(b, at)
	return parsed{v, n, e}
}

func fault(e api.Errno) parsed { return parsed{e: e} }

// textsOf is every text of at most long bytes of an alphabet.
func textsOf(alphabet string, long int) []string {
	all := []string{""}
	for from := 0; long > 0; long-- {
		to := len(all)
		for _, s := range all[from:to] {
			for i := range len(alphabet) {
				all = append(all, s+alphabet[i:i+1])
			}
		}
		from = to
	}
	return all
}

// edgeNumbers are the numbers beside the powers of 2 and of 10, and beside the limits.
func edgeNumbers() []uint64 {
	l := []uint64{0, math.MaxUint64, math.MaxUint64 - 1}
	for i := range 64 {
		p := uint64(1) << i
		l = append(l, p-1, p, p+1)
	}
	for p := uint64(1); p < 1e19; p *= 10 {
		l = append(l, p-1, p, p+1, 9*p)
	}
	return append(l, 1e19-1, 1e19, 1e19+1)
}

// P1.1: the number, and how many digits.
func TestParseReadsAsManyDigitsAsThereAre(t *testing.T) {
	for _, c := range []struct {
		s    string
		at   int
		want parsed
	}{
		{"120.3", 0, parsed{120, 3, api.OK}},
		{"120.3", 1, parsed{20, 2, api.OK}},
		{"120.3", 2, parsed{0, 1, api.OK}},
		{"120.3", 4, parsed{3, 1, api.OK}},
		{"0", 0, parsed{0, 1, api.OK}},
		{"0.0", 0, parsed{0, 1, api.OK}},
		{"0x1", 0, parsed{0, 1, api.OK}},
		{"7", 0, parsed{7, 1, api.OK}},
		{"1000", 0, parsed{1000, 4, api.OK}},
		{"1234567890", 0, parsed{1234567890, 10, api.OK}},
		{"ab12cd34", 2, parsed{12, 2, api.OK}},
		{"1_000", 0, parsed{1, 1, api.OK}},
		{"1e3", 0, parsed{1, 1, api.OK}},
		{"5/", 0, parsed{5, 1, api.OK}},
		{"5:", 0, parsed{5, 1, api.OK}},
		{"5\x00", 0, parsed{5, 1, api.OK}},
		{"5\u0663", 0, parsed{5, 1, api.OK}},
		{"5\xb0", 0, parsed{5, 1, api.OK}},
	} {
		if got := parse([]byte(c.s), c.at); got != c.want {
			t.Errorf("Parse(%q, %d) = %v, want %v", c.s, c.at, got, c.want)
		}
	}
}

// P1.1: ErrArg.
func TestParseRefusesPlacesOutside(t *testing.T) {
	for _, s := range []string{"", "1", "00", "x", "123456"} {
		b := []byte(s)
		for _, at := range []int{-1, -2, math.MinInt, len(b) + 1, len(b) + 2, math.MaxInt} {
			if got := parse(b, at); got != fault(api.ErrArg) {
				t.Errorf("Parse(%q, %d) = %v, want ErrArg", s, at, got)
			}
		}
	}
	if got := parse(nil, 1); got != fault(api.ErrArg) {
		t.Errorf("Parse(nil, 1) = %v, want ErrArg", got)
	}
}

// P1.1: ErrShort, at the length itself too.
func TestParseRefusesPlacesWithoutDigit(t *testing.T) {
	for _, c := range []struct {
		s  string
		at int
	}{
		{"", 0}, {"1", 1}, {"123", 3}, {".", 0}, {"1.2", 1}, {"-1", 0}, {"+1", 0}, {" 1", 0}, {"a1", 0},
		{"/", 0}, {":", 0}, {"\x00", 0}, {"\xff", 0}, {"\xb1", 0}, {"\u0663", 0}, {"\uff11", 0}, {"x0", 0},
	} {
		if got := parse([]byte(c.s), c.at); got != fault(api.ErrShort) {
			t.Errorf("Parse(%q, %d) = %v, want ErrShort", c.s, c.at, got)
		}
	}
	if got := parse(nil, 0); got != fault(api.ErrShort) {
		t.Errorf("Parse(nil, 0) = %v, want ErrShort", got)
	}
}

// P1.1: ErrForm, ahead of ErrLarge.
func TestParseRefusesFirstDigit0(t *testing.T) {
	for _, s := range []string{
		"00", "01", "007", "010", "00.1", "09x", "0" + maxField, "09223372036854775808",
		"0" + strings.Repeat("9", 100), strings.Repeat("0", 100),
	} {
		if got := parse([]byte(s), 0); got != fault(api.ErrForm) {
			t.Errorf("Parse(%q, 0) = %v, want ErrForm", s, got)
		}
		if got := parse([]byte("1."+s), 2); got != fault(api.ErrForm) {
			t.Errorf("Parse(1.%s, 2) = %v, want ErrForm", s, got)
		}
	}
}

// P1.1: ErrLarge, from just above MaxField on.
func TestParseHoldsUpToMaxField(t *testing.T) {
	for _, s := range []string{maxField, "9223372036854775806", "9223372036854775799", "1000000000000000000"} {
		want, _ := new(big.Int).SetString(s, 10)
		if got := parse([]byte(s), 0); got != (parsed{want.Uint64(), 19, api.OK}) {
			t.Errorf("Parse(%q, 0) = %v", s, got)
		}
	}
	for _, s := range []string{
		"9223372036854775808", "9223372036854775809", "9223372036854775810", "9300000000000000000",
		"9999999999999999999", "10000000000000000000", "18446744073709551615", "18446744073709551616",
		"18446744073709551617", "36893488147419103233", "92233720368547758070", "99999999999999999999999999",
	} {
		if got := parse([]byte(s), 0); got != fault(api.ErrLarge) {
			t.Errorf("Parse(%q, 0) = %v, want ErrLarge", s, got)
		}
	}
	for n := 20; n < 400; n++ {
		s := "1" + strings.Repeat("0", n-1)
		if got := parse([]byte(s), 0); got != fault(api.ErrLarge) {
			t.Errorf("Parse of 1 and %d zeros = %v, want ErrLarge", n-1, got)
		}
	}
	long := bytes.Repeat([]byte("7"), api.MaxInput)
	if got := parse(long, 0); got != fault(api.ErrLarge) {
		t.Errorf("Parse of MaxInput digits = %v, want ErrLarge", got)
	}
	if got := parse(long, len(long)-2); got != (parsed{77, 2, api.OK}) {
		t.Errorf("Parse of the last two of MaxInput digits = %v", got)
	}
}

// P1.1 and the order of its errors, of all short texts, at all places.
func TestParseOfAllShortTexts(t *testing.T) {
	run := regexp.MustCompile(`\A[0-9]*`)
	for _, s := range textsOf("0192/:", 5) {
		for at := -1; at <= len(s)+1; at++ {
			var want parsed
			if at < 0 || at > len(s) {
				want = fault(api.ErrArg)
			} else if d := run.FindString(s[at:]); d == "" {
				want = fault(api.ErrShort)
			} else if !numeral.MatchString(d) {
				want = fault(api.ErrForm)
			} else {
				v, _ := new(big.Int).SetString(d, 10)
				want = parsed{v.Uint64(), len(d), api.OK}
			}
			if got := parse([]byte(s), at); got != want {
				t.Fatalf("Parse(%q, %d) = %v, want %v", s, at, got, want)
			}
		}
	}
}

// R4: what lies behind the length isn't read, and nothing is written.
func TestParseLeavesMemoryAlone(t *testing.T) {
	whole := []byte("x12345")
	if got := parse(whole[:3], 1); got != (parsed{12, 2, api.OK}) {
		t.Errorf("Parse reads behind the length: %v", got)
	}
	if got := parse(whole[:2], 2); got != fault(api.ErrShort) {
		t.Errorf("Parse reads behind the length: %v", got)
	}
	if got := parse(whole[:2], 3); got != fault(api.ErrArg) {
		t.Errorf("Parse takes a place behind the length: %v", got)
	}
	if string(whole) != "x12345" {
		t.Errorf("Parse wrote: %q", whole)
	}
}

// P1.2: Text.
func TestTextIsTheNumeral(t *testing.T) {
	for v, want := range map[uint64]string{
		0: "0", 1: "1", 9: "9", 10: "10", 120: "120", 1000: "1000",
		api.MaxField: maxField, api.MaxField + 1: "9223372036854775808", math.MaxUint64: "18446744073709551615",
	} {
		if got := Text(v); got != want {
			t.Errorf("Text(%d) = %q", v, got)
		}
	}
	for _, v := range edgeNumbers() {
		if got := Text(v); got != new(big.Int).SetUint64(v).String() || !numeral.MatchString(got) {
			t.Errorf("Text(%d) = %q", v, got)
		}
	}
}

// P1.2: Is.
func TestIsTellsNumerals(t *testing.T) {
	for _, s := range []string{
		"0", "1", "9", "10", "100", "120", maxField, "9223372036854775808", "18446744073709551616",
		"1" + strings.Repeat("0", 1000), strings.Repeat("9", api.MaxInput),
	} {
		if !Is(s) {
			t.Errorf("Is of a numeral of %d digits is false", len(s))
		}
	}
	for _, s := range []string{
		"", "00", "01", "007", "-1", "+1", "-0", " 1", "1 ", "1\n", "1.0", "1e3", "0x1", "1_0", "a", "/", ":", "1/", "1:",
		"\x00", "1\x00", "\xff", "1\xb1", "\u0663", "1\u0663", "\uff11", "0" + strings.Repeat("9", 1000),
		strings.Repeat("9", 1000) + "x", strings.Repeat("9", 1000) + "x" + strings.Repeat("9", 1000),
	} {
		if Is(s) {
			t.Errorf("Is(%.40q) is true", s)
		}
	}
	for c := range 256 {
		s := string([]byte{byte(c)})
		if Is(s) != ('0' <= c && c <= '9') || Is("1"+s) != Is(s) || Is(s+"1") != (Is(s) && s != "0") {
			t.Errorf("Is of byte %d alone, behind or ahead of 1 is wrong", c)
		}
	}
	for _, s := range textsOf("0192/:", 5) {
		if Is(s) != numeral.MatchString(s) {
			t.Errorf("Is(%q) = %v", s, Is(s))
		}
	}
}

// P1.2: Compare of numerals, of any length.
func TestCompareTellsNumbers(t *testing.T) {
	nines := strings.Repeat("9", 5000)
	for _, c := range []struct {
		a, b string
		want int
	}{
		{"0", "0", 0}, {"0", "1", -1}, {"9", "10", -1}, {"10", "9", 1}, {"7", "7", 0}, {"19", "20", -1}, {"21", "12", 1},
		{"199", "200", -1}, {"120", "120", 0}, {"2", "1000000", -1}, {maxField, "9223372036854775808", -1},
		{"18446744073709551616", "0", 1}, {"18446744073709551616", "18446744073709551616", 0},
		{"18446744073709551617", "1", 1}, {nines, nines, 0}, {nines, "1" + strings.Repeat("0", 5000), -1},
		{nines, nines[:4999] + "8", 1}, {nines, "8" + nines[1:], 1}, {nines, nines[1:], 1},
	} {
		if got := Compare(c.a, c.b); got != c.want {
			t.Errorf("Compare(%.30q, %.30q) = %d, want %d", c.a, c.b, got, c.want)
		}
		if got := Compare(c.b, c.a); got != -c.want {
			t.Errorf("Compare(%.30q, %.30q) = %d, want %d", c.b, c.a, got, -c.want)
		}
	}
}

// P1.2: Compare is 0, if one of the texts isn't a numeral.
func TestCompareOfOtherTextsIs0(t *testing.T) {
	wrong := []string{"", "00", "01", "-1", "+1", " 1", "1 ", "a", "b", "1a", "\xff", "\u0663", "0" + strings.Repeat("9", 50)}
	for _, w := range wrong {
		for _, s := range append([]string{"0", "1", "2", "10", maxField, strings.Repeat("9", 50)}, wrong...) {
			if Compare(w, s) != 0 || Compare(s, w) != 0 {
				t.Errorf("Compare of %q and %q isn't 0", w, s)
			}
		}
	}
}

// P1.2, of all pairs of short texts.
func TestCompareOfAllShortTexts(t *testing.T) {
	all := textsOf("019/", 4)
	for _, a := range all {
		for _, b := range all {
			want := 0
			if numeral.MatchString(a) && numeral.MatchString(b) {
				x, _ := new(big.Int).SetString(a, 10)
				y, _ := new(big.Int).SetString(b, 10)
				want = x.Cmp(y)
			}
			if got := Compare(a, b); got != want {
				t.Fatalf("Compare(%q, %q) = %d, want %d", a, b, got, want)
			}
		}
	}
}

// P1.3: a held number's Text is parsed as it; one that isn't held is refused.
func TestTextIsParsedAsItsNumber(t *testing.T) {
	for _, v := range edgeNumbers() {
		s := Text(v)
		want := parsed{v, len(s), api.OK}
		if v > api.MaxField {
			want = fault(api.ErrLarge)
		}
		if got := parse([]byte(s), 0); got != want {
			t.Errorf("Parse(Text(%d)) = %v, want %v", v, got, want)
		}
		if got := parse([]byte("v"+s+".0"), 1); got != want {
			t.Errorf("Parse of %d between others = %v, want %v", v, got, want)
		}
		if !Is(s) {
			t.Errorf("Is(Text(%d)) is false", v)
		}
	}
	for v := range uint64(20000) {
		s := Text(v)
		if got := parse([]byte(s), 0); got != (parsed{v, len(s), api.OK}) {
			t.Fatalf("Parse(Text(%d)) = %v", v, got)
		}
	}
}

// P1.3: Compare tells of Texts what numbers do.
func TestCompareOfTextsIsThatOfNumbers(t *testing.T) {
	l := edgeNumbers()
	for _, a := range l {
		for _, b := range l {
			want := 0
			if a < b {
				want = -1
			} else if a > b {
				want = 1
			}
			if got := Compare(Text(a), Text(b)); got != want {
				t.Fatalf("Compare(Text(%d), Text(%d)) = %d, want %d", a, b, got, want)
			}
		}
	}
}

// P1: whatever bytes are read, at whatever place, the answer is right or an error.
func FuzzParse(f *testing.F) {
	f.Add([]byte("120.3"), 0)
	f.Add([]byte("007"), 0)
	f.Add([]byte(maxField+"0"), 0)
	f.Add([]byte{0xff, '0', 0}, 1)
	f.Add([]byte(nil), -1)
	f.Fuzz(func(t *testing.T, b []byte, at int) {
		v, n, e := Parse(b, at)
		if e != api.OK {
			if v != 0 || n != 0 || e < api.ErrArg || e > api.ErrLarge {
				t.Fatalf("Parse(%q, %d) = %d, %d, %d", b, at, v, n, e)
			}
			return
		}
		if s := string(b[at : at+n]); v > api.MaxField || Text(v) != s || !Is(s) || Compare(s, Text(v)) != 0 {
			t.Fatalf("Parse(%q, %d) = %d, %d", b, at, v, n)
		}
	})
}
