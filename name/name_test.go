package name

import (
	"bytes"
	"math"
	"regexp"
	"slices"
	"sort"
	"strconv"
	"strings"
	"testing"
	"unsafe"

	"ferrule/api"
)

// A second way of telling names, which shares no code with the package.
var (
	whole = regexp.MustCompile(`\A[a-z0-9][a-z0-9_.-]{0,254}\z`)
	begun = regexp.MustCompile(`\A[a-z0-9][a-z0-9_.-]*`)
)

type scanned struct {
	n int
	e api.Errno
}

func scan(b []byte, at int) scanned {
	n, e := Scan(b, at)
	return scanned{n, e}
}

func read(n int) scanned { return scanned{n, api.OK} }

func refused(e api.Errno) scanned { return scanned{e: e} }

// wantedScan is what Scan is to answer, by the second way.
func wantedScan(b []byte, at int) scanned {
	if at < 0 || at > len(b) {
		return refused(api.ErrArg)
	}
	s := begun.FindString(string(b[at:]))
	if !whole.MatchString(s) {
		return refused(api.ErrName)
	}
	return read(len(s))
}

// textsOf is every text of at most long bytes of an alphabet.
func textsOf(alphabet string, long int) []string {
	all := []string{""}
	for from := 0; long > 0; long-- {
		to := len(all)
		for _, s := range all[from:to] {
			for i := range len(alphabet) {
				all = append(all, s+alphabet[i:i+1])
			}
		}
		from = to
	}
	return all
}

// noNames are texts that are no names, of each sort.
func noNames() []string {
	return []string{
		"", "-", "_", ".", "-a", "_a", ".a", "--", "..", "A", "Lib", "lIB", "liB", "a ", " a", " ", "a b", "a\n", "\na", "a\r\n",
		"a\t", "a\x00", "\x00", "\x00a", "a\x00b", "a/b", "/", "a:b", "@a", "a@1", "a+b", "a,b", "a^1", "a~1", "a*", "a\\", "a`", "`", "{", "a{",
		"\xff", "a\xff", "\x80", "a\x80", "\xe9", "\xe1", "a\xe1", "\xb0", "1\xb0", "\u00e9", "a\u00e9", "\u0663", "1\u0663", "\uff41", "\u2010", "a\u2010b",
		"K", "\u212a", "a\u212a", "\u017f", "a\u017f",
		strings.Repeat("a", 256), strings.Repeat("0", 257), strings.Repeat("a.", 128), strings.Repeat("a", 511), strings.Repeat("a", 512),
		strings.Repeat("a", 65536), strings.Repeat("a", 65537), strings.Repeat("a", 65791),
		strings.Repeat("a", 254) + "A", strings.Repeat("a", 255) + " ", strings.Repeat("a", 255) + "\x00", "-" + strings.Repeat("a", 254),
	}
}

// names are some names.
func names() []string {
	return []string{
		"a", "z", "0", "9", "m", "5", "lib", "lib-x_1.0", "a-", "a_", "a.", "a--", "a..", "a__", "a-_.", "0-0", "00", "007", "1.2.3", "com.example.lib",
		"x" + strings.Repeat("-", 254), strings.Repeat("a", 254), strings.Repeat("a", 255), strings.Repeat("9", 255), strings.Repeat("ab", 127), "abcdefghijklmnopqrstuvwxyz0123456789-_.",
	}
}

// P8.1: Good.
func TestGoodTellsNames(t *testing.T) {
	for _, s := range names() {
		if !Good(s) {
			t.Errorf("Good(%.40q) is false", s)
		}
	}
	for _, s := range noNames() {
		if Good(s) {
			t.Errorf("Good(%.40q), of %d bytes, is true", s, len(s))
		}
	}
}

// P8.1: each byte as a name's first one, and as a later one.
func TestEachByteInEachPlace(t *testing.T) {
	const first, later = "abcdefghijklmnopqrstuvwxyz0123456789", "abcdefghijklmnopqrstuvwxyz0123456789-_."
	for c := range 256 {
		s := string([]byte{byte(c)})
		begins, goesOn := strings.Contains(first, s), strings.Contains(later, s)
		if Good(s) != begins || Good(s+"a") != begins || Good(s+"-") != begins {
			t.Errorf("byte %d: Good of it as the first one isn't %v", c, begins)
		}
		if Good("a"+s) != goesOn || Good("0"+s+"b") != goesOn || Good("a-"+s) != goesOn || Good(strings.Repeat("a", 254)+s) != goesOn {
			t.Errorf("byte %d: Good of it as a later one isn't %v", c, goesOn)
		}
		alone, ahead, behind, last := refused(api.ErrName), refused(api.ErrName), read(1), read(1)
		if begins {
			alone, ahead = read(1), read(2)
		}
		if goesOn {
			behind, last = read(3), read(2)
		}
		for _, got := range []struct {
			what       string
			have, want scanned
		}{
			{"alone", scan([]byte(s), 0), alone}, {"ahead of x", scan([]byte(s+"x"), 0), ahead}, {"behind a blank", scan([]byte(" "+s), 1), alone},
			{"between", scan([]byte("x"+s+"y"), 0), behind}, {"last", scan([]byte("x"+s), 0), last},
		} {
			if got.have != got.want {
				t.Errorf("byte %d %s: Scan is %v, want %v", c, got.what, got.have, got.want)
			}
		}
	}
}

// P8.1: names of each length, up to MaxIdent.
func TestLengths(t *testing.T) {
	for _, n := range []int{1, 2, 100, 253, 254, 255, 256, 257, 258, 300, 510, 511, 512, 513, 1000, 65535, 65536, 65537, 65790, 65791, 65792, api.MaxInput} {
		for _, part := range []string{"a", "0", "a-", "0_.z"} {
			s := strings.Repeat(part, n/len(part)+1)[:n]
			want := refused(api.ErrName)
			if n <= 255 {
				want = read(n)
			}
			if Good(s) != (n <= 255) {
				t.Errorf("Good of %d bytes is %v", n, Good(s))
			}
			for _, behind := range []string{"", " ", "A", "\n", "^1.0.0", "\xff"} {
				if got := scan([]byte("- "+s+behind), 2); got != want {
					t.Errorf("Scan of %d bytes ahead of %q is %v, want %v", n, behind, got, want)
				}
			}
		}
	}
}

// P8.1: the last place of a name that is too long, from which on a name stands.
func TestScanWithinLongNames(t *testing.T) {
	b := []byte(strings.Repeat("a", 300) + " " + strings.Repeat("-", 10))
	for at := range len(b) + 1 {
		want := refused(api.ErrName)
		if 45 <= at && at < 300 {
			want = read(300 - at)
		}
		if got := scan(b, at); got != want {
			t.Errorf("Scan(300 bytes, %d) = %v, want %v", at, got, want)
		}
	}
}

// P8.1: Scan, as far as bytes of names go.
func TestScanReadsAsFarAsItGoes(t *testing.T) {
	for _, c := range []struct {
		s    string
		at   int
		want scanned
	}{
		{"x lib^1", 2, read(3)},
		{"x lib^1", 0, read(1)},
		{"x lib^1", 3, read(2)},
		{"x lib^1", 4, read(1)},
		{"x lib^1", 6, read(1)},
		{"lib", 0, read(3)},
		{"lib", 2, read(1)},
		{"lib ", 0, read(3)},
		{"lib\n", 0, read(3)},
		{"lib\r\n", 0, read(3)},
		{"libX", 0, read(3)},
		{"lib\x00", 0, read(3)},
		{"lib\u00e9", 0, read(3)},
		{"lib-x_1.0 ^1.0.0", 0, read(9)},
		{"needs lib-x_1.0 ^1.0.0", 6, read(9)},
		{"lib-x", 4, read(1)},
		{"a-", 0, read(2)},
		{"a.", 0, read(2)},
		{"a_", 0, read(2)},
		{"a...b", 0, read(5)},
		{"a/b", 0, read(1)},
		{"a/b", 2, read(1)},
		{"1.2.3-rc.1+b", 0, read(10)},
		{"lib-x", 3, refused(api.ErrName)},
		{"lib_x", 3, refused(api.ErrName)},
		{"lib.x", 3, refused(api.ErrName)},
		{"lib x", 3, refused(api.ErrName)},
		{"x lib^1", 1, refused(api.ErrName)},
		{"x lib^1", 5, refused(api.ErrName)},
		{"Lib", 0, refused(api.ErrName)},
		{" lib", 0, refused(api.ErrName)},
	} {
		if got := scan([]byte(c.s), c.at); got != c.want {
			t.Errorf("Scan(%q, %d) = %v, want %v", c.s, c.at, got, c.want)
		}
	}
}

// P8.1: ErrArg, of places outside alone; at the length itself none stands.
func TestScanPlaces(t *testing.T) {
	for _, s := range append(noNames(), names()...) {
		b := []byte(s)
		for _, at := range []int{-1, -2, -len(b) - 1, math.MinInt, len(b) + 1, len(b) + 2, 2*len(b) + 1, math.MaxInt} {
			if got := scan(b, at); got != refused(api.ErrArg) {
				t.Errorf("Scan(%.20q, %d) = %v, want ErrArg", s, at, got)
			}
		}
		if got := scan(b, len(b)); got != refused(api.ErrName) {
			t.Errorf("Scan(%.20q, %d) = %v, want ErrName", s, len(b), got)
		}
	}
	for at, want := range map[int]scanned{-1: refused(api.ErrArg), 0: refused(api.ErrName), 1: refused(api.ErrArg)} {
		if got := scan(nil, at); got != want {
			t.Errorf("Scan(nil, %d) = %v, want %v", at, got, want)
		}
	}
}

// P8.1, of all short texts, at all places.
func TestAllShortTexts(t *testing.T) {
	for _, s := range textsOf("a9-_.Z ", 5) {
		if Good(s) != whole.MatchString(s) {
			t.Fatalf("Good(%q) = %v", s, Good(s))
		}
		for at := -1; at <= len(s)+1; at++ {
			if got, want := scan([]byte(s), at), wantedScan([]byte(s), at); got != want {
				t.Fatalf("Scan(%q, %d) = %v, want %v", s, at, got, want)
			}
		}
	}
}

// R4: what lies behind the length isn't read, and nothing is written.
func TestScanLeavesMemoryAlone(t *testing.T) {
	b := []byte("x lib-x")
	if got := scan(b[:4], 2); got != read(2) {
		t.Errorf("Scan reads behind the length: %v", got)
	}
	if got := scan(b[:2], 2); got != refused(api.ErrName) {
		t.Errorf("Scan reads behind the length: %v", got)
	}
	if got := scan(b[:2], 3); got != refused(api.ErrArg) {
		t.Errorf("Scan takes a place behind the length: %v", got)
	}
	long := bytes.Repeat([]byte("a"), 256)
	if got := scan(long[:255], 0); got != read(255) {
		t.Errorf("Scan reads behind the length: %v", got)
	}
	if string(b) != "x lib-x" || !bytes.Equal(long, bytes.Repeat([]byte("a"), 256)) {
		t.Errorf("Scan wrote: %q", b)
	}
}

// kept is a second way of keeping a table: names alone, looked for one by one.
type kept []string

func (k *kept) add(s string) (int, api.Errno) {
	if i := slices.Index(*k, s); i >= 0 {
		return i, api.OK
	}
	if !whole.MatchString(s) {
		return 0, api.ErrName
	}
	if len(*k) == 4096 {
		return 0, api.ErrFull
	}
	*k = append(*k, s)
	return len(*k) - 1, api.OK
}

func (k kept) order() []int {
	rising := slices.Clone(k)
	sort.Strings(rising)
	var l []int
	for _, s := range rising {
		l = append(l, slices.Index(k, s))
	}
	return l
}

// agree asks for all of a table's answers, and for those of some texts that it is not to have.
func agree(t *testing.T, l *Table, k kept, others ...string) {
	t.Helper()
	if l.Len() != len(k) {
		t.Fatalf("Len() = %d, want %d", l.Len(), len(k))
	}
	for i, s := range k {
		if l.Name(i) != s {
			t.Fatalf("Name(%d) = %q, want %q", i, l.Name(i), s)
		}
		if n, ok := l.Find(s); n != i || !ok {
			t.Fatalf("Find(%q) = %d, %v, want %d", s, n, ok, i)
		}
	}
	for _, i := range []int{math.MinInt, -4097, -4096, -len(k) - 1, -len(k), -2, -1, len(k), len(k) + 1, 4096, 4097, math.MaxInt} {
		if s := l.Name(i); s != "" && !(0 <= i && i < len(k)) {
			t.Fatalf("Name(%d) = %q of %d names", i, s, len(k))
		}
	}
	for _, s := range others {
		if n, ok := l.Find(s); !slices.Contains(k, s) && (n != 0 || ok) {
			t.Fatalf("Find(%.40q) = %d, %v", s, n, ok)
		}
	}
	if got, want := l.Order(), k.order(); !slices.Equal(got, want) {
		t.Fatalf("Order() = %v, want %v", got, want)
	}
}

// put adds texts to both, one by one, and asks for all answers behind each.
func put(t *testing.T, l *Table, k *kept, texts ...string) {
	t.Helper()
	for _, s := range texts {
		want, e := k.add(s)
		if n, got := l.Add(s); n != want || got != e {
			t.Fatalf("Add(%.40q) = %d, %d, want %d, %d", s, n, got, want, e)
		}
		agree(t, l, *k, s)
	}
}

// P8.2: the chapter's example.
func TestAddGivesNumbersAsTheyCome(t *testing.T) {
	var l Table
	for i, s := range []string{"b", "a", "b"} {
		if n, e := l.Add(s); n != []int{0, 1, 0}[i] || e != api.OK {
			t.Errorf("Add(%q) = %d, %d", s, n, e)
		}
	}
	if got := l.Order(); !slices.Equal(got, []int{1, 0}) {
		t.Errorf("Order() = %v", got)
	}
	if l.Len() != 2 || l.Name(0) != "b" || l.Name(1) != "a" || l.Name(2) != "" || l.Name(-1) != "" {
		t.Errorf("of %d names: %q, %q, %q, %q", l.Len(), l.Name(0), l.Name(1), l.Name(2), l.Name(-1))
	}
}

// P8.2: the zero Table has nothing, whatever is asked first, and takes names.
func TestZeroTable(t *testing.T) {
	agree(t, &Table{}, nil, append(noNames(), names()...)...)
	for _, ask := range []func(l *Table){
		func(l *Table) {},
		func(l *Table) { l.Len() },
		func(l *Table) { l.Name(0) },
		func(l *Table) { l.Find("a") },
		func(l *Table) { l.Order() },
		func(l *Table) { l.Add("A") },
	} {
		var l Table
		ask(&l)
		agree(t, &l, nil, "a", "A", "")
		put(t, &l, &kept{}, "a", "a", "b")
	}
	agree(t, new(Table), nil, "a", "b", "")
}

// P8.2, P8.3: names that come again, first and last ones too.
func TestAddAgain(t *testing.T) {
	var l Table
	var k kept
	put(t, &l, &k, "m", "m", "a", "m", "a", "z", "m", "z", "0", "a", "0", "m")
	if !slices.Equal(k, kept{"m", "a", "z", "0"}) {
		t.Errorf("names: %v", k)
	}
	put(t, &l, &k, names()...)
	for _, i := range []int{0, len(k) - 1, 1, len(k) - 2} {
		put(t, &l, &k, k[i], k[i])
	}
	put(t, &l, &k, names()...)
}

// P8.2, P8.3: what is no name is refused, and changes nothing.
func TestAddRefusesWhatIsNoName(t *testing.T) {
	var l Table
	var k kept
	for _, some := range [][]string{nil, {"a"}, {"b", "lib"}, names()} {
		put(t, &l, &k, some...)
		for _, s := range noNames() {
			if n, e := l.Add(s); n != 0 || e != api.ErrName {
				t.Errorf("Add(%.40q) = %d, %d, want ErrName", s, n, e)
			}
			agree(t, &l, k, noNames()...)
		}
	}
	put(t, &l, &k, "behind")
}

// P8.1, P8.2: a text is added just if it is Good.
func TestAddTakesWhatIsGood(t *testing.T) {
	for _, s := range append(textsOf("a9-_.Z ", 4), append(noNames(), names()...)...) {
		var l Table
		n, e := l.Add(s)
		if (e == api.OK) != Good(s) || n != 0 || (e != api.OK && e != api.ErrName) {
			t.Fatalf("Add(%.40q) = %d, %d", s, n, e)
		}
		if i, ok := l.Find(s); ok != Good(s) || i != 0 {
			t.Fatalf("Find(%.40q) = %d, %v", s, i, ok)
		}
	}
}

// numbered is the name of a number among those that fill a table; neither rising nor falling.
func numbered(i int) string { return "n" + strconv.Itoa(i*2741%4096) }

// filled is a table of so many names.
func filled(t *testing.T, many int) (*Table, kept) {
	t.Helper()
	l, k := &Table{}, kept{}
	for i := range many {
		if n, e := l.Add(numbered(i)); n != i || e != api.OK {
			t.Fatalf("Add of the name of place %d = %d, %d", i, n, e)
		}
		k = append(k, numbered(i))
	}
	return l, k
}

// P8.2, P8.3: MaxNames names, and no more.
func TestFull(t *testing.T) {
	l, k := filled(t, 4095)
	agree(t, l, k, "x", numbered(4095))
	put(t, l, &k, k[0], k[4094], "A", "", "last")
	for _, s := range []string{"x", "n", "n4096", "0", "nn", strings.Repeat("a", 255), numbered(4095), "last1"} {
		if n, e := l.Add(s); n != 0 || e != api.ErrFull {
			t.Errorf("Add(%q) to a full table = %d, %d, want ErrFull", s, n, e)
		}
	}
	agree(t, l, k, "x", "n4096", "0", numbered(4095))
	for _, i := range []int{0, 1, 2048, 4094, 4095} {
		if n, e := l.Add(k[i]); n != i || e != api.OK {
			t.Errorf("Add(%q) to a full table = %d, %d, want %d", k[i], n, e, i)
		}
	}
	for _, s := range noNames() {
		if n, e := l.Add(s); n != 0 || e != api.ErrName {
			t.Errorf("Add(%.40q) to a full table = %d, %d, want ErrName", s, n, e)
		}
	}
	agree(t, l, k, append(noNames(), "x", "n4096", "0", numbered(4095))...)
	if l.Len() != api.MaxNames || l.Name(4095) != "last" || l.Name(4096) != "" {
		t.Errorf("of a full table: Len() = %d, Name(4095) = %q, Name(4096) = %q", l.Len(), l.Name(4095), l.Name(4096))
	}
	put(t, l, &k, "x", k[4095], "A", k[0])
}

// P8.2: numbers below 0, the last one, one beyond.
func TestNameOfNumbersThatNobodyHas(t *testing.T) {
	l, k := filled(t, 300)
	for _, i := range []int{math.MinInt, math.MinInt32, -4096, -300, -299, -256, -1, 300, 301, 555, 556, 4095, 4096, 65536, 1 << 32, math.MaxInt} {
		if s := l.Name(i); s != "" {
			t.Errorf("Name(%d) of 300 = %q", i, s)
		}
	}
	if l.Name(0) != k[0] || l.Name(299) != k[299] {
		t.Errorf("Name(0), Name(299) = %q, %q", l.Name(0), l.Name(299))
	}
}

// P8.2: Find of what was never added, near what was.
func TestFindOfWhatIsNotThere(t *testing.T) {
	var l Table
	var k kept
	put(t, &l, &k, "lib", "lib-x", "a")
	agree(t, &l, k, append(noNames(), "li", "libs", "lib-", "lib-x-", "lib-y", "Lib", "LIB", "lib ", " lib", "lib\x00", "b", "aa", "x")...)
}

// P8.2: Order goes by names, byte by byte, a beginning ahead of what goes on.
func TestOrderIsThatOfNames(t *testing.T) {
	rising := []string{
		"0", "0-", "00", "01", "0a", "1", "10", "2", "9", "a", "a-", "a--", "a-a", "a.", "a.a", "a0", "a1", "a10", "a2", "a9", "a_", "a_a",
		"aa", "aaa", "ab", "az", "b", "lib", "lib-x", "lib.x", "lib0", "lib_x", "libs", "z", "z-", "zz", strings.Repeat("z", 254), strings.Repeat("z", 255),
	}
	n := len(rising)
	for _, step := range []int{1, n - 1, 5, 7, 11, 17} {
		var l Table
		place := map[int]int{}
		for i := range n {
			at := (i*step + n - 1) % n
			place[at] = i
			if got, e := l.Add(rising[at]); got != i || e != api.OK {
				t.Fatalf("Add(%q) = %d, %d, want %d", rising[at], got, e, i)
			}
		}
		for at, i := range l.Order() {
			if place[at] != i || l.Name(i) != rising[at] {
				t.Errorf("step %d: Order()[%d] = %d, of %q, want %d, of %q", step, at, i, l.Name(i), place[at], rising[at])
			}
		}
		if len(l.Order()) != n {
			t.Errorf("step %d: Order() has %d of %d", step, len(l.Order()), n)
		}
	}
}

// P8.2: Order of none, of one, and as more come.
func TestOrderGrows(t *testing.T) {
	var l Table
	for _, c := range []struct {
		add  string
		want []int
	}{
		{"", nil}, {"m", []int{0}}, {"m", []int{0}}, {"mm", []int{0, 1}}, {"a", []int{2, 0, 1}}, {"m-", []int{2, 0, 3, 1}}, {"A", []int{2, 0, 3, 1}},
		{"z", []int{2, 0, 3, 1, 4}}, {"mm", []int{2, 0, 3, 1, 4}}, {"0", []int{5, 2, 0, 3, 1, 4}}, {"mmm", []int{5, 2, 0, 3, 1, 6, 4}},
	} {
		l.Add(c.add)
		if got := l.Order(); !slices.Equal(got, c.want) {
			t.Errorf("Order() behind %q = %v, want %v", c.add, got, c.want)
		}
	}
}

// P8.2, of all names that are short, added in several ways.
func TestTableOfAllShortNames(t *testing.T) {
	texts := textsOf("a9-_Z", 4)
	back := slices.Clone(texts)
	slices.Reverse(back)
	middle := append(slices.Clone(texts[len(texts)/2:]), texts...)
	for _, row := range [][]string{texts, back, middle} {
		var l Table
		var k kept
		for i, s := range row {
			want, e := k.add(s)
			if n, got := l.Add(s); n != want || got != e {
				t.Fatalf("Add(%q) = %d, %d, want %d, %d", s, n, got, want, e)
			}
			if i%97 == 0 {
				agree(t, &l, k, texts...)
			}
		}
		agree(t, &l, k, texts...)
	}
}

// P8.3: a name's number stays, and two names have two, however many come.
func TestNumbersStay(t *testing.T) {
	var l Table
	had := map[string]int{}
	used := map[int]string{}
	for i := range api.MaxNames {
		s := numbered(i)
		n, _ := l.Add(s)
		if other, ok := used[n]; ok {
			t.Fatalf("%q has the number of %q", s, other)
		}
		had[s], used[n] = n, s
		if i&(i-1) != 0 && i != api.MaxNames-1 {
			continue
		}
		for s, n := range had {
			if again, e := l.Add(s); again != n || e != api.OK {
				t.Fatalf("Add(%q) = %d, %d behind %d names, was %d", s, again, e, i+1, n)
			}
			if found, ok := l.Find(s); found != n || !ok || l.Name(n) != s {
				t.Fatalf("Find(%q) = %d, %v, Name(%d) = %q behind %d names", s, found, ok, n, l.Name(n), i+1)
			}
		}
	}
	if l.Len() != api.MaxNames {
		t.Errorf("Len() = %d", l.Len())
	}
}

// P8.3: tables have nothing to do with one another.
func TestTablesAreApart(t *testing.T) {
	var a, b Table
	var j, k kept
	put(t, &a, &j, "x", "y")
	agree(t, &b, nil, "x", "y")
	put(t, &b, &k, "y", "z", "A", "x")
	agree(t, &a, j, "z", "A")
	full, all := filled(t, api.MaxNames)
	put(t, &a, &j, "n1", "w")
	agree(t, full, all, "w", "x")
}

// R4: an Order may be written over, grown and kept.
func TestOrderIsNew(t *testing.T) {
	l, k := filled(t, 20)
	first, second, third := l.Order(), l.Order(), l.Order()
	was := slices.Clone(first)
	for i := range second {
		second[i] = -1
	}
	for i := range third[:cap(third)] {
		third[:cap(third)][i] = -2
	}
	_ = append(second, -3, -3)
	if !slices.Equal(first, was) || second[0] != -1 || second[19] != -1 {
		t.Errorf("an Order changed by another one: %v, %v", first, second)
	}
	agree(t, l, k)
	put(t, l, &k, "a", "nn", "n0-")
	if !slices.Equal(first, was) || second[0] != -1 || third[0] != -2 {
		t.Errorf("an Order changed by Add: %v, %v, %v", first, second, third)
	}
}

// R4: a table keeps names by their values, whatever becomes of the memory that they lay in.
func TestTableKeepsCopies(t *testing.T) {
	text := []byte("package lib\npackage app\n")
	at := func(from, to int) string { return unsafe.String(&text[from], to-from) }
	var l Table
	k := kept{"lib", "app"}
	l.Add(at(8, 11))
	l.Add(at(20, 23))
	l.Find(at(8, 11))
	l.Add(at(20, 23))
	l.Add(at(0, 9))
	for i := range text {
		text[i] = 'x'
	}
	agree(t, &l, k, "xxx", "package l")
}

// R8: the same questions have the same answers, each time.
func TestSameAnswers(t *testing.T) {
	l, k := filled(t, 500)
	want := l.Order()
	for range 50 {
		if !slices.Equal(l.Order(), want) {
			t.Fatal("Order differs")
		}
		again, _ := filled(t, 500)
		if !slices.Equal(again.Order(), want) {
			t.Fatal("Order of a like table differs")
		}
	}
	agree(t, l, k)
}

// P1, P8.1: whatever bytes are read, at whatever place.
func FuzzScan(f *testing.F) {
	f.Add([]byte("x lib^1"), 2)
	f.Add([]byte("x"), 2)
	f.Add([]byte(strings.Repeat("a", 256)), 0)
	f.Add([]byte(strings.Repeat("a", 256)), 1)
	f.Add([]byte{0xff, '-', 0, 'a'}, 1)
	f.Add([]byte(nil), -1)
	f.Fuzz(func(t *testing.T, b []byte, at int) {
		was := bytes.Clone(b)
		if got, want := scan(b, at), wantedScan(b, at); got != want {
			t.Fatalf("Scan(%q, %d) = %v, want %v", b, at, got, want)
		}
		if Good(string(b)) != whole.Match(b) {
			t.Fatalf("Good(%q) = %v", b, Good(string(b)))
		}
		if !bytes.Equal(b, was) {
			t.Fatalf("%q became %q", was, b)
		}
	})
}

// P1, P8.2, P8.3: whatever texts are added, in whatever order.
func FuzzTable(f *testing.F) {
	f.Add("b a b", " ")
	f.Add("lib\nlib-x\n\nlib\nLib\nlib.x", "\n")
	f.Add("", "")
	f.Add("abcabc", "")
	f.Add("a\x00b\xffc", "\x00")
	f.Fuzz(func(t *testing.T, text, between string) {
		var l Table
		var k kept
		texts := strings.Split(text, between)
		for _, s := range texts {
			want, e := k.add(s)
			if n, got := l.Add(s); n != want || got != e {
				t.Fatalf("Add(%q) = %d, %d, want %d, %d", s, n, got, want, e)
			}
		}
		agree(t, &l, k, append(texts, text, between)...)
	})
}
