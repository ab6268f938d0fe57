package semver

import (
	"bytes"
	"math"
	"math/big"
	"regexp"
	"slices"
	"strings"
	"testing"

	"ferrule/api"
)

// A second way of telling versions, which shares no code with the package: the whole form, as SemVer 2.0.0 itself suggests it, and its parts.
var (
	wholeForm = regexp.MustCompile(`\A(0|[1-9]\d*)\.(0|[1-9]\d*)\.(0|[1-9]\d*)` +
		`(?:-((?:0|[1-9]\d*|\d*[a-zA-Z-][0-9a-zA-Z-]*)(?:\.(?:0|[1-9]\d*|\d*[a-zA-Z-][0-9a-zA-Z-]*))*))?` +
		`(?:\+([0-9a-zA-Z-]+(?:\.[0-9a-zA-Z-]+)*))?\z`)
	digitRun = regexp.MustCompile(`\A[0-9]*`)
	rowRun   = regexp.MustCompile(`\A[0-9A-Za-z.-]*`)
	padded   = regexp.MustCompile(`\A0[0-9]+\z`)
	ownBytes = regexp.MustCompile(`\A[0-9A-Za-z-]*\z`)
)

const maxField = "9223372036854775807"

type parsed struct {
	v  api.Version
	at int
	e  api.Errno
}

func parse(b []byte, at int) parsed {
	v, end, e := Parse(b, at)
	return parsed{v, end, e}
}

func read(s string) parsed {
	v, at, e := Read(s)
	return parsed{v, at, e}
}

func refused(at int, e api.Errno) parsed { return parsed{at: at, e: e} }

// like compares field by field, so that Same is tested by it, and not the other way round.
func (p parsed) like(o parsed) bool {
	return p.v.Major == o.v.Major && p.v.Minor == o.v.Minor && p.v.Patch == o.v.Patch &&
		slices.Equal(p.v.Pre, o.v.Pre) && slices.Equal(p.v.Build, o.v.Build) && p.at == o.at && p.e == o.e
}

func version(major, minor, patch uint64, pre, build []string) api.Version {
	return api.Version{Major: major, Minor: minor, Patch: patch, Pre: pre, Build: build}
}

func row(l ...string) []string { return l }

func many(s string, n int) []string { return slices.Repeat([]string{s}, n) }

// wantedNumeral is a numeral's number and length, or its error, by the second way.
func wantedNumeral(b []byte) (v uint64, n int, e api.Errno) {
	d := string(digitRun.Find(b))
	x, ok := new(big.Int).SetString(d, 10)
	if !ok {
		return 0, 0, api.ErrShort
	}
	if padded.MatchString(d) {
		return 0, 0, api.ErrForm
	}
	if !x.IsInt64() {
		return 0, 0, api.ErrLarge
	}
	return x.Uint64(), len(d), api.OK
}

// wantedRow is a row and its length, or its error, by the second way.
func wantedRow(b []byte, pre bool) (l []string, n int, e api.Errno) {
	whole := string(rowRun.Find(b))
	l = strings.Split(whole, ".")
	for i, s := range l {
		if s == "" {
			return nil, 0, api.ErrEmpty
		}
		if len(s) >= 256 || i == 16 {
			return nil, 0, api.ErrLarge
		}
		if pre && padded.MatchString(s) {
			return nil, 0, api.ErrForm
		}
	}
	return l, len(whole), api.OK
}

// wantedParse is what Parse is to answer, by the second way.
func wantedParse(b []byte, at int) parsed {
	if at < 0 || at > len(b) {
		return refused(0, api.ErrArg)
	}
	var w parsed
	for i, to := range []*uint64{&w.v.Major, &w.v.Minor, &w.v.Patch} {
		if i > 0 {
			if at == len(b) {
				return refused(at, api.ErrShort)
			}
			if b[at] != '.' {
				return refused(at, api.ErrForm)
			}
			at++
		}
		v, n, e := wantedNumeral(b[at:])
		if e != api.OK {
			return refused(at, e)
		}
		*to = v
		at += n
	}
	for _, r := range []struct {
		mark string
		to   *[]string
	}{{"-", &w.v.Pre}, {"+", &w.v.Build}} {
		if !bytes.HasPrefix(b[at:], []byte(r.mark)) {
			continue
		}
		at++
		l, n, e := wantedRow(b[at:], r.mark == "-")
		if e != api.OK {
			return refused(at, e)
		}
		*r.to = l
		at += n
	}
	w.at = at
	return w
}

// wantedRead is what Read is to answer, by the second way.
func wantedRead(s string) parsed {
	w := wantedParse([]byte(s), 0)
	if w.e != api.OK {
		return w
	}
	if w.at < len(s) {
		return refused(w.at, api.ErrLine)
	}
	w.at = 0
	return w
}

// isText tells whether a text is a version's, that is within the limits, by the whole form.
func isText(s string) bool {
	m := wholeForm.FindStringSubmatch(s)
	if m == nil {
		return false
	}
	for _, d := range m[1:4] {
		if x, _ := new(big.Int).SetString(d, 10); !x.IsInt64() {
			return false
		}
	}
	for _, r := range m[4:] {
		l := strings.Split(r, ".")
		if len(l) > 16 || slices.ContainsFunc(l, func(s string) bool { return len(s) > 255 }) {
			return false
		}
	}
	return true
}

// wantedGood is what Good is to answer, by the second way.
func wantedGood(v api.Version) bool {
	bad := func(s string) bool { return s == "" || len(s) > 255 || !ownBytes.MatchString(s) }
	return v.Major < 1<<63 && v.Minor < 1<<63 && v.Patch < 1<<63 && len(v.Pre) <= 16 && len(v.Build) <= 16 &&
		!slices.ContainsFunc(v.Pre, bad) && !slices.ContainsFunc(v.Build, bad) && !slices.ContainsFunc(v.Pre, padded.MatchString)
}

// textsOf is every text of at most long bytes of an alphabet.
func textsOf(alphabet string, long int) []string {
	all := []string{""}
	for from := 0; long > 0; long-- {
		to := len(all)
		for _, s := range all[from:to] {
			for i := range len(alphabet) {
				all = append(all, s+alphabet[i:i+1])
			}
		}
		from = to
	}
	return all
}

// rightVersions are versions at the edges of what is right: without rows, with one, with both.
func rightVersions() []api.Version {
	long := strings.Repeat("x", 255)
	pres := [][]string{nil, {}, {"0"}, {"rc", "1"}, {"-"}, {"--", "0a", "AZaz09-"}, {long}, many("a", 16), many(long, 16), many("0", 16), {strings.Repeat("9", 255)}}
	builds := append(pres, []string{"00"}, []string{"b", "007"}, many("01", 16), []string{strings.Repeat("0", 255)})
	numbers := []uint64{0, 1, 9, 10, 120, math.MaxInt64 - 1, math.MaxInt64}
	var all []api.Version
	for i, pre := range pres {
		for k, build := range builds {
			for j := range numbers {
				all = append(all, version(numbers[j], numbers[(i+j)%len(numbers)], numbers[(k+j)%len(numbers)], pre, build))
			}
		}
	}
	return all
}

// P3.1: the version, and the place behind it.
func TestParseReadsAVersion(t *testing.T) {
	for _, c := range []struct {
		s    string
		at   int
		v    api.Version
		rest string
	}{
		{"1.2.3-rc.1+b", 0, version(1, 2, 3, row("rc", "1"), row("b")), ""},
		{"0.0.0", 0, api.Version{}, ""},
		{"1.2.3", 0, version(1, 2, 3, nil, nil), ""},
		{"10.200.3000", 0, version(10, 200, 3000, nil, nil), ""},
		{"10.200.3000", 1, version(0, 200, 3000, nil, nil), ""},
		{"12.3.4", 1, version(2, 3, 4, nil, nil), ""},
		{"1.2.3.4", 2, version(2, 3, 4, nil, nil), ""},
		{"v1.2.3", 1, version(1, 2, 3, nil, nil), ""},
		{"x1.2.3-a,", 1, version(1, 2, 3, row("a"), nil), ","},
		{maxField + "." + maxField + "." + maxField, 0, version(math.MaxInt64, math.MaxInt64, math.MaxInt64, nil, nil), ""},
		{"1.0.0-0", 0, version(1, 0, 0, row("0"), nil), ""},
		{"1.0.0--", 0, version(1, 0, 0, row("-"), nil), ""},
		{"1.0.0----.-.0+-.--", 0, version(1, 0, 0, row("---", "-", "0"), row("-", "--")), ""},
		{"1.0.0-alpha.1.x-y", 0, version(1, 0, 0, row("alpha", "1", "x-y"), nil), ""},
		{"1.0.0-00a.0-.-01", 0, version(1, 0, 0, row("00a", "0-", "-01"), nil), ""},
		{"1.0.0+001.b", 0, version(1, 0, 0, nil, row("001", "b")), ""},
		{"1.0.0+b-1.c", 0, version(1, 0, 0, nil, row("b-1", "c")), ""},
		{"1.0.0+b-01", 0, version(1, 0, 0, nil, row("b-01")), ""},
		{"1.0.0-a+b+c", 0, version(1, 0, 0, row("a"), row("b")), "+c"},
		{"1.0.0+b+c", 0, version(1, 0, 0, nil, row("b")), "+c"},
		{"1.0.0-a+00.01", 0, version(1, 0, 0, row("a"), row("00", "01")), ""},
		{"1.2.3.4", 0, version(1, 2, 3, nil, nil), ".4"},
		{"1.2.3.", 0, version(1, 2, 3, nil, nil), "."},
		{"1.2.3 - 2.0.0", 0, version(1, 2, 3, nil, nil), " - 2.0.0"},
		{"1.2.3rc", 0, version(1, 2, 3, nil, nil), "rc"},
		{"1.2.0x1", 0, version(1, 2, 0, nil, nil), "x1"},
		{"1.2.3_-a", 0, version(1, 2, 3, nil, nil), "_-a"},
		{"1.2.3-a_+b", 0, version(1, 2, 3, row("a"), nil), "_+b"},
		{"1.2.3-1.2.3-1.2.3", 0, version(1, 2, 3, row("1", "2", "3-1", "2", "3"), nil), ""},
		{"1.2.3\u0663", 0, version(1, 2, 3, nil, nil), "\u0663"},
	} {
		want := parsed{c.v, len(c.s) - len(c.rest), api.OK}
		if got := parse([]byte(c.s), c.at); !got.like(want) {
			t.Errorf("Parse(%q, %d) = %v, want %v", c.s, c.at, got, want)
		}
	}
}

// P3.1: ErrArg and the place 0, ahead of all else.
func TestParseRefusesPlacesOutside(t *testing.T) {
	for _, s := range []string{"", "1", "1.2.3", "01.2.3", "1.2.3-", "x", "1.2.3-a+b", strings.Repeat("9", 300)} {
		for _, at := range []int{-1, -2, -len(s), math.MinInt, len(s) + 1, len(s) + 2, math.MaxInt} {
			if at == 0 {
				continue
			}
			if got := parse([]byte(s), at); !got.like(refused(0, api.ErrArg)) {
				t.Errorf("Parse(%.20q, %d) = %v, want ErrArg at 0", s, at, got)
			}
		}
		if got := parse([]byte(s), len(s)); !got.like(refused(len(s), api.ErrShort)) {
			t.Errorf("Parse(%.20q, %d) = %v, want ErrShort at the length", s, len(s), got)
		}
	}
	if got := parse(nil, 1); !got.like(refused(0, api.ErrArg)) {
		t.Errorf("Parse(nil, 1) = %v, want ErrArg at 0", got)
	}
	if got := parse(nil, 0); !got.like(refused(0, api.ErrShort)) {
		t.Errorf("Parse(nil, 0) = %v, want ErrShort at 0", got)
	}
}

// P3.1: of each of the three numerals chapter 1's error, at its beginning.
func TestParseRefusesNumerals(t *testing.T) {
	for _, c := range []struct {
		s string
		e api.Errno
	}{
		{"", api.ErrShort}, {"x", api.ErrShort}, {".", api.ErrShort}, {"-1", api.ErrShort}, {"+1", api.ErrShort}, {" 1", api.ErrShort}, {"*", api.ErrShort},
		{"/", api.ErrShort}, {":", api.ErrShort}, {"\x00", api.ErrShort}, {"\xff", api.ErrShort}, {"\u0663", api.ErrShort},
		{"00", api.ErrForm}, {"01", api.ErrForm}, {"007", api.ErrForm}, {"0" + maxField, api.ErrForm}, {"09223372036854775808", api.ErrForm},
		{"9223372036854775808", api.ErrLarge}, {"9999999999999999999", api.ErrLarge}, {"18446744073709551615", api.ErrLarge},
		{"18446744073709551616", api.ErrLarge}, {"18446744073709551617", api.ErrLarge}, {strings.Repeat("7", 300), api.ErrLarge},
	} {
		for _, ahead := range []string{"", "1.", "0.", "1.2.", "10.200.", maxField + ".0."} {
			for _, front := range []string{"", "x", ">=", "01.2.3 "} {
				for _, behind := range []string{"", ".2.3", ".01.x", "-a", "+", " "} {
					want := refused(len(front+ahead), c.e)
					if got := parse([]byte(front+ahead+c.s+behind), len(front)); !got.like(want) {
						t.Errorf("Parse(%.40q, %d) = %v, want %v", front+ahead+c.s+behind, len(front), got, want)
					}
				}
			}
		}
	}
}

// P3.1: ErrForm where a point is to stand, and doesn't; ErrShort, if b ends there.
func TestParseRefusesMissingPoints(t *testing.T) {
	for _, ahead := range []string{"1", "0", maxField, "1.2", "0.0", "10." + maxField} {
		for _, front := range []string{"", "x", "1.2.3 "} {
			s := front + ahead
			if got := parse([]byte(s), len(front)); !got.like(refused(len(s), api.ErrShort)) {
				t.Errorf("Parse(%q, %d) = %v, want ErrShort at %d", s, len(front), got, len(s))
			}
			for c := range 256 {
				if c == '.' || '0' <= c && c <= '9' {
					continue
				}
				for _, behind := range []string{"", "2.3", ".2.3"} {
					b := append([]byte(s), byte(c))
					b = append(b, behind...)
					if got := parse(b, len(front)); !got.like(refused(len(s), api.ErrForm)) {
						t.Errorf("Parse(%q, %d) = %v, want ErrForm at %d", b, len(front), got, len(s))
					}
				}
			}
		}
	}
}

// P3.1: of a row chapter 2's error, at the row's beginning, whichever identifier it is.
func TestParseRefusesRows(t *testing.T) {
	long := strings.Repeat("a", 256)
	for _, c := range []struct {
		s          string
		pre, build api.Errno
	}{
		{"", api.ErrEmpty, api.ErrEmpty}, {".", api.ErrEmpty, api.ErrEmpty}, {".a", api.ErrEmpty, api.ErrEmpty}, {"a.", api.ErrEmpty, api.ErrEmpty},
		{"a..b", api.ErrEmpty, api.ErrEmpty}, {"a.b.c.", api.ErrEmpty, api.ErrEmpty}, {"_", api.ErrEmpty, api.ErrEmpty}, {" a", api.ErrEmpty, api.ErrEmpty},
		{"a._", api.ErrEmpty, api.ErrEmpty}, {"\u00e9", api.ErrEmpty, api.ErrEmpty}, {"\xff", api.ErrEmpty, api.ErrEmpty}, {"+", api.ErrEmpty, api.ErrEmpty},
		{long, api.ErrLarge, api.ErrLarge}, {"a." + long, api.ErrLarge, api.ErrLarge}, {strings.Repeat("0", 256), api.ErrLarge, api.ErrLarge},
		{strings.Repeat("a.", 16) + "a", api.ErrLarge, api.ErrLarge}, {strings.Repeat("0.", 99) + "0", api.ErrLarge, api.ErrLarge},
		{strings.Repeat("a.", 16), api.ErrEmpty, api.ErrEmpty}, {long + "..", api.ErrLarge, api.ErrLarge}, {"." + long, api.ErrEmpty, api.ErrEmpty},
		{"00", api.ErrForm, api.OK}, {"01", api.ErrForm, api.OK}, {"a.007", api.ErrForm, api.OK}, {"0.0.00", api.ErrForm, api.OK},
		{strings.Repeat("0", 255), api.ErrForm, api.OK}, {strings.Repeat("a.", 15) + "01", api.ErrForm, api.OK}, {"01.", api.ErrForm, api.ErrEmpty},
		{"01.." + long, api.ErrForm, api.ErrEmpty}, {"01." + long, api.ErrForm, api.ErrLarge}, {"0", api.OK, api.OK}, {"0a.00b", api.OK, api.OK},
	} {
		for _, front := range []string{"", "x ", "1.2.3-a+b,"} {
			for _, w := range []struct {
				mark string
				e    api.Errno
			}{{"-", c.pre}, {"+", c.build}, {"-0+", c.build}, {"-a.b-c.1+", c.build}} {
				s := front + "1.20.3" + w.mark + c.s
				want := refused(len(front+"1.20.3"+w.mark), w.e)
				got := parse([]byte(s), len(front))
				if w.e == api.OK && (got.e != api.OK || got.at != len(s)) || w.e != api.OK && !got.like(want) {
					t.Errorf("Parse(%.60q, %d) = %v, want error %d at %d", s, len(front), got, w.e, want.at)
				}
			}
		}
	}
}

// P3.1: rows may have 16 identifiers of 255 bytes, each.
func TestParseTakesLongRows(t *testing.T) {
	l := many(strings.Repeat("z", 255), 16)
	r := strings.Join(l, ".")
	s := "1.2.3-" + r + "+" + r
	if got := parse([]byte(s), 0); !got.like(parsed{version(1, 2, 3, l, l), len(s), api.OK}) {
		t.Errorf("Parse of long rows: place %d, error %d", got.at, got.e)
	}
	for n := 1; n <= 20; n++ {
		s := "1.2.3-" + strings.Join(many("a", n), ".") + "+" + strings.Join(many("00", n), ".")
		want := parsed{version(1, 2, 3, many("a", n), many("00", n)), len(s), api.OK}
		if n > 16 {
			want = refused(6, api.ErrLarge)
		}
		if got := parse([]byte(s), 0); !got.like(want) {
			t.Errorf("Parse of two rows of %d identifiers = %v", n, got)
		}
	}
}

// P3.1 and R2: of several faults the leftmost is told.
func TestParseTellsTheFirstFault(t *testing.T) {
	for _, c := range []struct {
		s  string
		at int
		e  api.Errno
	}{
		{"01.02.03-", 0, api.ErrForm}, {"1.02.03-", 2, api.ErrForm}, {"1.2.03-", 4, api.ErrForm}, {"1.2.3-+", 6, api.ErrEmpty}, {"1.2.3-01+", 6, api.ErrForm},
		{"1.2.3-a+", 8, api.ErrEmpty}, {"1.2.3-a.+..", 6, api.ErrEmpty}, {"9223372036854775808.01", 0, api.ErrLarge}, {"1-01", 1, api.ErrForm}, {"1.2+", 3, api.ErrForm},
		{"1..3", 2, api.ErrShort}, {"1.2..", 4, api.ErrShort}, {".", 0, api.ErrShort}, {"..", 0, api.ErrShort}, {"1.2.-a", 4, api.ErrShort}, {"1.2.3-a+b..", 8, api.ErrEmpty},
		{"1.2", 3, api.ErrShort}, {"1.2.", 4, api.ErrShort}, {"1.", 2, api.ErrShort}, {"1", 1, api.ErrShort}, {"", 0, api.ErrShort}, {"1,2,3", 1, api.ErrForm},
	} {
		for _, got := range []parsed{parse([]byte(c.s), 0), read(c.s)} {
			if !got.like(refused(c.at, c.e)) {
				t.Errorf("%q: %v, want error %d at %d", c.s, got, c.e, c.at)
			}
		}
	}
}

// P3.1 and P3.2: what stands behind a version, byte by byte.
func TestWhatStandsBehindAVersion(t *testing.T) {
	for _, s := range []string{"1.2.3", "0.0.0", "1.2.3-a", "1.2.3-1", "1.2.3+b", "1.2.3-a+b", "1.2.3-0.x+0"} {
		for c := range 256 {
			for _, behind := range []string{"", "a", "0", ".", " 1.2.3"} {
				b := append([]byte(s), byte(c))
				b = append(b, behind...)
				if got, want := parse(b, 0), wantedParse(b, 0); !got.like(want) {
					t.Errorf("Parse(%q, 0) = %v, want %v", b, got, want)
				}
				if got, want := read(string(b)), wantedRead(string(b)); !got.like(want) {
					t.Errorf("Read(%q) = %v, want %v", b, got, want)
				}
			}
		}
	}
}

// P3.1, of all short texts, at all places.
func TestParseOfAllShortTexts(t *testing.T) {
	for _, s := range textsOf("01.-+a", 6) {
		for at := -1; at <= len(s)+1; at++ {
			if got, want := parse([]byte(s), at), wantedParse([]byte(s), at); !got.like(want) {
				t.Fatalf("Parse(%q, %d) = %v, want %v", s, at, got, want)
			}
		}
	}
	for _, s := range textsOf("01aZ._-+", 5) {
		s = "3.4.5" + s
		if got, want := parse([]byte(s), 0), wantedParse([]byte(s), 0); !got.like(want) {
			t.Fatalf("Parse(%q, 0) = %v, want %v", s, got, want)
		}
	}
}

// R4: what lies behind the length isn't read, nothing is written, and the answer is new.
func TestParseLeavesMemoryAlone(t *testing.T) {
	const text = "1.2.34-a.b+c.d"
	whole := []byte(text)
	for n := range len(whole) + 1 {
		if got, want := parse(whole[:n], 0), wantedParse([]byte(text[:n]), 0); !got.like(want) {
			t.Errorf("Parse reads behind the length %d: %v, want %v", n, got, want)
		}
		if got := parse(whole[:n], n+1); !got.like(refused(0, api.ErrArg)) {
			t.Errorf("Parse takes a place behind the length: %v", got)
		}
	}
	one, two := parse(whole, 0), parse(whole, 0)
	if string(whole) != text {
		t.Errorf("Parse wrote: %q", whole)
	}
	copy(whole, "99999999999999")
	one.v.Pre = append(one.v.Pre, "x", "y", "z")
	one.v.Pre[0] = "w"
	want := parsed{version(1, 2, 34, row("a", "b"), row("c", "d")), len(text), api.OK}
	if !two.like(want) || !slices.Equal(one.v.Build, want.v.Build) {
		t.Errorf("an answer changed by another one, or by the bytes: %v, %v", one, two)
	}
}

// P3.2: Read of texts that are a version's; the place tells faults alone.
func TestReadReadsAllOfAText(t *testing.T) {
	for _, c := range []struct {
		s string
		v api.Version
	}{
		{"0.0.0", api.Version{}}, {"1.2.3", version(1, 2, 3, nil, nil)}, {maxField + ".0.1", version(math.MaxInt64, 0, 1, nil, nil)},
		{"1.2.3-rc.1", version(1, 2, 3, row("rc", "1"), nil)}, {"1.2.3+007", version(1, 2, 3, nil, row("007"))},
		{"1.2.3-rc.1+b", version(1, 2, 3, row("rc", "1"), row("b"))}, {"1.0.0--.0+-", version(1, 0, 0, row("-", "0"), row("-"))},
	} {
		if got := read(c.s); !got.like(parsed{c.v, 0, api.OK}) {
			t.Errorf("Read(%q) = %v", c.s, got)
		}
	}
}

// P3.2: ErrLine, and the place behind the version.
func TestReadRefusesWhatGoesOn(t *testing.T) {
	for _, c := range []struct{ s, rest string }{
		{"1.2.3", " "}, {"1.2.3", ".4"}, {"1.2.3", "."}, {"1.2.3", "\n"}, {"1.2.3", "\x00"}, {"1.2.3", "x"}, {"1.2.3", "_"}, {"1.2.3", "1.2.3"[1:]}, {"1.2.3", "\xff"},
		{"1.2.3-a", " "}, {"1.2.3-a", "_"}, {"1.2.3-a", "\n"}, {"1.2.3-a", "\u00e9"}, {"1.2.3+b", "+c"}, {"1.2.3+b", "+"}, {"1.2.3-a+b", "+"}, {"1.2.3-a+b", " 1.2.3"},
		{"1.2.3", "," + strings.Repeat("9", 1000)},
	} {
		if got := read(c.s + c.rest); !got.like(refused(len(c.s), api.ErrLine)) {
			t.Errorf("Read(%.40q) = %v, want ErrLine at %d", c.s+c.rest, got, len(c.s))
		}
	}
}

// P3.2: Parse's error and place.
func TestReadTellsParsesFault(t *testing.T) {
	for _, s := range []string{
		"", "1", "1.", "1.2", "1.2.", "v1.2.3", " 1.2.3", "1-2", "1.2 .3", "01.2.3", "1.02.3", "1.2.03", "9223372036854775808.0.0", "0.9223372036854775808.0",
		"0.0.9223372036854775808", "1.2.3-", "1.2.3+", "1.2.3-+b", "1.2.3-01", "1.2.3-a..b", "1.2.3+a..b", "1.2.3-a+", "\xff", "1.2.3-" + strings.Repeat("a", 256),
	} {
		got, want := read(s), parse([]byte(s), 0)
		if want.e == api.OK || !got.like(want) || !got.like(wantedRead(s)) {
			t.Errorf("Read(%.40q) = %v, Parse %v", s, got, want)
		}
	}
}

// P3.2 and P3.4, of all short texts: what is read is right, and its text is what was read; all other texts are refused.
func TestReadOfAllShortTexts(t *testing.T) {
	texts := textsOf("01.-+a", 7)
	for _, s := range textsOf("01aZ._-+", 5) {
		texts = append(texts, "3.4.5"+s)
	}
	for _, s := range texts {
		got := read(s)
		if want := wantedRead(s); !got.like(want) {
			t.Fatalf("Read(%q) = %v, want %v", s, got, want)
		}
		if (got.e == api.OK) != isText(s) {
			t.Fatalf("Read(%q) = %v, but SemVer's own form says otherwise", s, got)
		}
		if got.e == api.OK && (!Good(got.v) || Text(got.v) != s) {
			t.Fatalf("Read(%q) = %v: not right, or told as %q", s, got, Text(got.v))
		}
	}
}

// P3.3: Text, of versions that aren't right too.
func TestTextWritesNumbersAndRows(t *testing.T) {
	for _, c := range []struct {
		v    api.Version
		want string
	}{
		{api.Version{}, "0.0.0"},
		{version(1, 2, 3, nil, nil), "1.2.3"},
		{version(1, 2, 3, row(), row()), "1.2.3"},
		{version(10, 200, 3000, []string{}, nil), "10.200.3000"},
		{version(1, 2, 3, row("rc", "1"), row("b")), "1.2.3-rc.1+b"},
		{version(1, 2, 3, row("rc"), nil), "1.2.3-rc"},
		{version(1, 2, 3, nil, row("b", "007")), "1.2.3+b.007"},
		{version(1, 2, 3, []string{}, row("b")), "1.2.3+b"},
		{version(math.MaxInt64, 0, math.MaxInt64, nil, nil), maxField + ".0." + maxField},
		{version(1<<63, math.MaxUint64, 1<<63+1, nil, nil), "9223372036854775808.18446744073709551615.9223372036854775809"},
		{version(0, 0, 0, row(""), row("")), "0.0.0-+"},
		{version(0, 0, 0, row("", ""), nil), "0.0.0-."},
		{version(0, 0, 0, row("01", "a b"), row("\xff", "c.d+e")), "0.0.0-01.a b+\xff.c.d+e"},
		{version(0, 0, 1, many("a", 17), many("b", 20)), "0.0.1-" + strings.Repeat("a.", 16) + "a+" + strings.Repeat("b.", 19) + "b"},
		{version(0, 0, 1, row(strings.Repeat("a", 300)), nil), "0.0.1-" + strings.Repeat("a", 300)},
	} {
		if got := Text(c.v); got != c.want {
			t.Errorf("Text(%.60v) = %.60q, want %.60q", c.v, got, c.want)
		}
	}
	l := row("a", "b", "c", "d")
	if got := Text(version(1, 0, 0, l[:1], l[2:3])); got != "1.0.0-a+c" || !slices.Equal(l, row("a", "b", "c", "d")) {
		t.Errorf("Text reads behind the length, or writes: %q, %q", got, l)
	}
}

// P3.3: Good of numbers: held or not, at each place.
func TestGoodAsksWhetherNumbersAreHeld(t *testing.T) {
	numbers := []uint64{0, 1, math.MaxInt64 - 1, math.MaxInt64, 1 << 63, 1<<63 + 1, math.MaxUint64 - 1, math.MaxUint64}
	for _, x := range numbers {
		for _, y := range numbers {
			for _, z := range numbers {
				v := version(x, y, z, row("a"), row("b"))
				if got, want := Good(v), x < 1<<63 && y < 1<<63 && z < 1<<63; got != want {
					t.Errorf("Good(%v) = %v", v, got)
				}
			}
		}
	}
}

// P3.3: Good of rows: those ahead of release, and those of a build.
func TestGoodAsksWhetherRowsAreGood(t *testing.T) {
	long := strings.Repeat("a", 255)
	for _, l := range [][]string{nil, {}, {"0"}, {"a"}, {"-"}, {"00a", "0-"}, {long}, many("a", 16), many(long, 16)} {
		if !Good(version(1, 2, 3, l, nil)) || !Good(version(1, 2, 3, nil, l)) || !Good(version(1, 2, 3, l, l)) {
			t.Errorf("Good of the row %.60q is false", l)
		}
	}
	for _, l := range [][]string{{"00"}, {"01"}, {"a", "007"}, append(many("a", 15), "01"), {strings.Repeat("0", 255)}} {
		if Good(version(1, 2, 3, l, nil)) || Good(version(1, 2, 3, l, l)) || !Good(version(1, 2, 3, nil, l)) || !Good(version(1, 2, 3, row("a"), l)) {
			t.Errorf("Good doesn't tell %.60q ahead of release from it in a build", l)
		}
	}
	for _, l := range [][]string{
		{""}, {"a", ""}, {"", "a"}, {"a.b"}, {"."}, {"_"}, {"a_"}, {"a b"}, {"+"}, {"a+b"}, {"\n"}, {"\xff"}, {"\u00e9"}, {"1\u0663"}, {long + "a"}, {"a", long + "a"},
		many("a", 17), many("0", 1000), append(many("a", 15), "_"),
	} {
		if Good(version(1, 2, 3, l, nil)) || Good(version(1, 2, 3, nil, l)) || Good(version(1, 2, 3, l, l)) || Good(version(1, 2, 3, row("a"), l)) || Good(version(1, 2, 3, l, row("b"))) {
			t.Errorf("Good of the row %.60q is true", l)
		}
	}
	l := row("a", "_", "b", "_")
	if !Good(version(1, 2, 3, l[:1], l[2:3])) || !slices.Equal(l, row("a", "_", "b", "_")) {
		t.Error("Good reads behind the length, or writes")
	}
}

// P3.3: Same, each version against each, those that aren't right among them.
func TestSameTellsNumbersAndRows(t *testing.T) {
	rows := [][]string{nil, {"a"}, {"b"}, {"a", "b"}, {"a.b"}, {"b", "a"}, {""}, {"", ""}, {"1"}, {"01"}, {"A"}, {"\xff"}, many("a", 17)}
	var all []api.Version
	for _, c := range [][3]uint64{{0, 0, 0}, {1, 0, 0}, {0, 1, 0}, {0, 0, 1}, {1, 2, 3}, {3, 2, 1}, {1 << 63, 0, 0}, {0, math.MaxUint64, 0}, {0, 0, math.MaxUint64}} {
		for _, pre := range rows {
			for _, build := range rows {
				all = append(all, version(c[0], c[1], c[2], pre, build))
			}
		}
	}
	for i, a := range all {
		for k, b := range all {
			b.Pre, b.Build = slices.Clone(b.Pre), slices.Clone(b.Build)
			if got := Same(a, b); got != (i == k) {
				t.Fatalf("Same(%.60v, %.60v) = %v", a, b, got)
			}
		}
	}
}

// P3.3, R3 and R4: lists without elements are alike, and what lies behind the length doesn't count.
func TestSameTakesListsByTheirElements(t *testing.T) {
	for _, a := range []api.Version{version(1, 2, 3, nil, nil), version(1, 2, 3, []string{}, nil), version(1, 2, 3, nil, []string{}), version(1, 2, 3, row("x")[:0], row("y")[:0])} {
		if !Same(a, version(1, 2, 3, nil, nil)) || !Same(version(1, 2, 3, []string{}, []string{}), a) {
			t.Errorf("Same tells lists without elements apart: %v", a)
		}
	}
	l, m := row("a", "b"), row("a", "c")
	if !Same(version(1, 2, 3, l[:1], m[:1]), version(1, 2, 3, m[:1], l[:1])) || l[1] != "b" || m[1] != "c" {
		t.Error("Same reads behind the length, or writes")
	}
}

// P3.4: a right version's text is read as it, wherever it stands.
func TestTextOfRightVersionsIsReadAsThem(t *testing.T) {
	for _, v := range rightVersions() {
		s := Text(v)
		if !Good(v) || !isText(s) {
			t.Fatalf("Good(%.60v) = %v, its text is %.60q", v, Good(v), s)
		}
		if got := read(s); !got.like(parsed{v, 0, api.OK}) || !Same(got.v, v) {
			t.Fatalf("Read(Text(%.60v)) = %.60v", v, got)
		}
		for _, behind := range []string{"", " ", ",", "_.a", "\xff"} {
			if got := parse([]byte("=="+s+behind), 2); !got.like(parsed{v, 2 + len(s), api.OK}) {
				t.Fatalf("Parse of the text of %.60v and %q = %.60v", v, behind, got)
			}
		}
	}
}

// P3.4: the text of what isn't right is never read as it.
func TestTextOfOtherVersionsIsNotReadAsThem(t *testing.T) {
	for _, v := range []api.Version{
		version(1<<63, 0, 0, nil, nil), version(0, 1<<63, 0, nil, nil), version(0, 0, math.MaxUint64, nil, nil), version(0, 0, 0, row(""), nil), version(0, 0, 0, nil, row("")),
		version(0, 0, 0, row("01"), nil), version(0, 0, 0, row("a.b"), nil), version(0, 0, 0, nil, row("a.b")), version(0, 0, 0, row("a+b"), nil), version(0, 0, 0, nil, row("a+b")),
		version(0, 0, 0, row("a "), nil), version(0, 0, 0, many("a", 17), nil), version(0, 0, 0, nil, many("a", 17)), version(0, 0, 0, row(strings.Repeat("a", 256)), nil),
	} {
		if got := read(Text(v)); Good(v) || got.like(parsed{v, 0, api.OK}) || Same(got.v, v) {
			t.Errorf("%.60v isn't right, and is read from its text: %.60v", v, got)
		}
	}
}

// P1: bytes of any length end in an answer.
func TestParseOfLongBytes(t *testing.T) {
	// The answers are written out: the second way takes minutes over numbers of so many digits.
	for _, c := range []struct {
		s    string
		want parsed
	}{
		{"7", refused(0, api.ErrLarge)}, {"0", refused(0, api.ErrForm)}, {"a", refused(0, api.ErrShort)}, {"\x00", refused(0, api.ErrShort)},
		{"1.", parsed{version(1, 1, 1, nil, nil), 5, api.OK}}, {"1.2.3-", refused(6, api.ErrLarge)}, {"1.2.3+", parsed{version(1, 2, 3, nil, row("1", "2", "3")), 11, api.OK}},
	} {
		b := bytes.Repeat([]byte(c.s), api.MaxInput/len(c.s))
		if got := parse(b, 0); !got.like(c.want) {
			t.Errorf("Parse of MaxInput bytes of %q = %v, want %v", c.s, got, c.want)
		}
	}
	long := "1.2.3 " + strings.Repeat("-", api.MaxInput)
	if got := read(long); !got.like(refused(5, api.ErrLine)) {
		t.Errorf("Read of more than MaxInput bytes = %v", got)
	}
}

// P1 and P3.1: whatever bytes are read, at whatever place, the answer is right or an error.
func FuzzParse(f *testing.F) {
	f.Add([]byte("1.2.3-rc.1+b"), 0)
	f.Add([]byte("1.2"), 0)
	f.Add([]byte("x1.2.3-a,"), 1)
	f.Add([]byte("1.2.3-01+00"), 0)
	f.Add([]byte("1.2.9223372036854775808"), 0)
	f.Add([]byte("1.2.3+"+strings.Repeat("a.", 17)), 0)
	f.Add([]byte(nil), -1)
	f.Fuzz(func(t *testing.T, b []byte, at int) {
		got := parse(b, at)
		if want := wantedParse(b, at); !got.like(want) {
			t.Fatalf("Parse(%q, %d) = %v, want %v", b, at, got, want)
		}
		if got.e == api.OK && (!Good(got.v) || Text(got.v) != string(b[at:got.at])) {
			t.Fatalf("what is read isn't right, or not what was there: %v", got.v)
		}
	})
}

// P1, P3.2 and P3.4: whatever text is read.
func FuzzRead(f *testing.F) {
	for _, s := range []string{"", "1.2.3", "1.2.3-rc.1+b", "1.2.3 ", "1.2.3-a+b+c", "01.2.3", "1.2.3-" + strings.Repeat("a", 256)} {
		f.Add(s)
	}
	f.Fuzz(func(t *testing.T, s string) {
		got := read(s)
		if want := wantedRead(s); !got.like(want) || (got.e == api.OK) != isText(s) {
			t.Fatalf("Read(%q) = %v, want %v", s, got, want)
		}
		if got.e == api.OK && (!Good(got.v) || Text(got.v) != s) {
			t.Fatalf("what is read isn't right, or not what was there: %v", got.v)
		}
	})
}

// P1, P3.3 and P3.4: whatever versions are told and held against each other.
func FuzzVersions(f *testing.F) {
	f.Add(uint64(1), uint64(2), uint64(3), "rc 1", "b")
	f.Add(uint64(0), uint64(0), uint64(1)<<63, "", "01")
	f.Add(uint64(math.MaxUint64), uint64(0), uint64(0), "01", " ")
	f.Fuzz(func(t *testing.T, major, minor, patch uint64, pre, build string) {
		v := version(major, minor, patch, strings.Fields(pre), strings.Split(build, " "))
		w := version(major, minor, patch, v.Build, v.Pre)
		if got := Good(v); got != wantedGood(v) {
			t.Fatalf("Good(%v) = %v", v, got)
		}
		if !Same(v, v) || Same(v, w) != slices.Equal(v.Pre, v.Build) || Same(v, version(major+1, minor, patch, v.Pre, v.Build)) {
			t.Fatalf("Same of %v is wrong", v)
		}
		if got := read(Text(v)); got.like(parsed{v, 0, api.OK}) != Good(v) {
			t.Fatalf("Good(%v) = %v, and its text is read as %v", v, Good(v), got)
		}
	})
}
