package prec

import (
	"bytes"
	"math"
	"math/big"
	"regexp"
	"slices"
	"strings"
	"testing"
	"unsafe"

	"ferrule/api"
	"ferrule/semver"
)

const maxField = math.MaxInt64

var digits = regexp.MustCompile(`\A[0-9]+\z`)

func version(major, minor, patch uint64, pre, build []string) api.Version {
	return api.Version{Major: major, Minor: minor, Patch: patch, Pre: pre, Build: build}
}

func row(l ...string) []string { return l }

func many(s string, n int) []string { return slices.Repeat([]string{s}, n) }

func read(t *testing.T, s string) api.Version {
	t.Helper()
	v, at, e := semver.Read(s)
	if e != api.OK {
		t.Fatalf("%q isn't read: error %d at %d", s, e, at)
	}
	return v
}

func readAll(t *testing.T, l ...string) []api.Version {
	t.Helper()
	var all []api.Version
	for _, s := range l {
		all = append(all, read(t, s))
	}
	return all
}

// like compares field by field, so that no order that is tested is taken for granted.
func like(a, b api.Version) bool {
	return a.Major == b.Major && a.Minor == b.Minor && a.Patch == b.Patch && slices.Equal(a.Pre, b.Pre) && slices.Equal(a.Build, b.Build)
}

func likeAll(a, b []api.Version) bool { return slices.EqualFunc(a, b, like) }

// deepCopy is a list in memory of its own.
func deepCopy(l []api.Version) []api.Version {
	var c []api.Version
	for _, v := range l {
		c = append(c, version(v.Major, v.Minor, v.Patch, append([]string(nil), v.Pre...), append([]string(nil), v.Build...)))
	}
	return c
}

// A second way of telling how versions stand, which shares no code with the package, nor with the layers below it: each version is a list of keys, and the lists are compared.

type key struct {
	kind   int
	number *big.Int
	text   string
}

func plain(kind int) key { return key{kind, new(big.Int), ""} }

func numberKey(v uint64) key { return key{0, new(big.Int).SetUint64(v), ""} }

func identKey(s string) key {
	if digits.MatchString(s) {
		n, _ := new(big.Int).SetString(s, 10)
		// Of like numbers the shorter one stands ahead, and its digits are the other one's without some 0s: so a row of as many bytes tells them apart.
		return key{1, n, strings.Repeat(" ", len(s))}
	}
	return key{2, new(big.Int), s}
}

// keys is a version's keys; behind each row stands its end, ahead of every identifier.
func keys(v api.Version, full bool) []key {
	l := []key{numberKey(v.Major), numberKey(v.Minor), numberKey(v.Patch)}
	for _, s := range v.Pre {
		l = append(l, identKey(s))
	}
	if len(v.Pre) > 0 {
		l = append(l, plain(0))
	} else {
		l = append(l, plain(3))
	}
	if full {
		for _, s := range v.Build {
			l = append(l, identKey(s))
		}
		l = append(l, plain(0))
	}
	return l
}

func compareKeys(a, b key) int {
	if a.kind != b.kind {
		return sign(a.kind > b.kind)
	}
	if c := a.number.Cmp(b.number); c != 0 {
		return c
	}
	return bytes.Compare([]byte(a.text), []byte(b.text))
}

func sign(above bool) int {
	if above {
		return 1
	}
	return -1
}

func wantedCompare(a, b api.Version) int {
	return slices.CompareFunc(keys(a, false), keys(b, false), compareKeys)
}

func wantedFull(a, b api.Version) int {
	return slices.CompareFunc(keys(a, true), keys(b, true), compareKeys)
}

// wantedSort puts each version behind the last one that doesn't stand behind it.
func wantedSort(l []api.Version) []api.Version {
	var sorted []api.Version
	for _, v := range l {
		i := len(sorted)
		for i > 0 && wantedFull(sorted[i-1], v) > 0 {
			i--
		}
		sorted = slices.Insert(sorted, i, v)
	}
	return sorted
}

func wantedEnd(c [3]uint64, place int) (api.Version, bool) {
	n := new(big.Int).SetUint64(c[place])
	n.Add(n, big.NewInt(1))
	if !n.IsInt64() {
		return api.Version{}, false
	}
	switch place {
	case 0:
		return version(n.Uint64(), 0, 0, row("0"), nil), true
	case 1:
		return version(c[0], n.Uint64(), 0, row("0"), nil), true
	}
	return version(c[0], c[1], n.Uint64(), row("0"), nil), true
}

func wantedCaret(v api.Version) (api.Version, bool) {
	c := [3]uint64{v.Major, v.Minor, v.Patch}
	if v.Major != 0 {
		return wantedEnd(c, 0)
	}
	if v.Minor != 0 {
		return wantedEnd(c, 1)
	}
	return wantedEnd(c, 2)
}

func wantedTilde(v api.Version) (api.Version, bool) {
	return wantedEnd([3]uint64{v.Major, v.Minor, v.Patch}, 1)
}

// edgeVersions are versions at the edges: numbers that differ at each place, rows that are beginnings of others, builds; and, where wrong, those that aren't right.
func edgeVersions(wrong bool) []api.Version {
	numbers := [][3]uint64{{0, 0, 0}, {0, 0, 1}, {0, 1, 0}, {1, 0, 0}, {0, 0, maxField}, {0, maxField, 0}, {maxField, 0, 0}, {1, 2, 3}, {9, 10, 11}}
	pres := [][]string{nil, {"0"}, {"0", "0"}, {"9"}, {"10"}, {"99999999999999999999"}, {"100000000000000000000"}, {"a"}, {"a", "0"}, {"a", "b"}, {"aa"}, {"-"}, {"A"}, {"0a"}, many("a", 16)}
	builds := [][]string{nil, {"0"}, {"00"}, {"1"}, {"01"}, {"a"}, {"a", "0"}, {"b"}}
	if wrong {
		numbers = append(numbers, [3]uint64{0, 0, 1 << 63}, [3]uint64{0, math.MaxUint64, 0}, [3]uint64{math.MaxUint64, 0, math.MaxUint64})
		pres = [][]string{nil, {"0"}, {"00"}, {"01"}, {"1"}, {""}, {"", ""}, {" "}, {"a"}, {"a.b"}, {"\xff"}, many("a", 17), {strings.Repeat("7", 300)}}
		builds = [][]string{nil, {"0"}, {"00"}, {""}, {"+"}, many("0", 17)}
	}
	var all []api.Version
	for _, c := range numbers {
		for _, pre := range pres {
			for _, build := range builds {
				all = append(all, version(c[0], c[1], c[2], pre, build))
			}
		}
	}
	return all
}

// rising is versions by precedence, each ahead of the next one.
func rising(t *testing.T) []api.Version {
	return readAll(t,
		"0.0.0-0", "0.0.0-0.0", "0.0.0-1", "0.0.0-a", "0.0.0", "0.0.1-0", "0.0.1", "0.0.9", "0.0.10", "0.0.9223372036854775807",
		"0.1.0-0", "0.1.0-a", "0.1.0", "0.1.1", "0.2.0", "0.10.0", "0.9223372036854775807.9223372036854775807",
		"1.0.0-0", "1.0.0-0.a", "1.0.0-2", "1.0.0-10", "1.0.0-99999999999999999999", "1.0.0-100000000000000000000", "1.0.0--", "1.0.0--1", "1.0.0-0a", "1.0.0-10a", "1.0.0-A", "1.0.0-Z",
		"1.0.0-a", "1.0.0-a.0", "1.0.0-a.0.0", "1.0.0-a.1", "1.0.0-a.-", "1.0.0-a.a", "1.0.0-a-", "1.0.0-a1", "1.0.0-aa",
		"1.0.0-alpha", "1.0.0-alpha.1", "1.0.0-alpha.beta", "1.0.0-beta", "1.0.0-beta.2", "1.0.0-beta.11", "1.0.0-rc.1", "1.0.0-rc.2", "1.0.0-rc.10", "1.0.0",
		"1.0.1-0", "1.0.1", "1.1.0-0", "1.1.0", "1.2.3", "1.2.10", "1.10.0", "2.0.0-0", "2.0.0", "9.9.9", "10.0.0-0", "10.0.0",
		"9223372036854775807.0.0-z", "9223372036854775807.0.0", "9223372036854775807.9223372036854775807.9223372036854775807")
}

// P4.1: precedence, each version of a rising list against each, whatever their builds; the full order too, since builds count last.
func TestPrecedenceOfARisingList(t *testing.T) {
	l := rising(t)
	builds := [][]string{nil, {"0"}, {"a"}, {"z", "1"}}
	for i, a := range l {
		for k, b := range l {
			a.Build, b.Build = builds[i%4], builds[k%3]
			want := bytes.Compare([]byte{byte(i)}, []byte{byte(k)})
			if got := Compare(a, b); got != want {
				t.Errorf("Compare(%s, %s) = %d, want %d", semver.Text(a), semver.Text(b), got, want)
			}
			if got := Full(a, b); i != k && got != want {
				t.Errorf("Full(%s, %s) = %d, want %d", semver.Text(a), semver.Text(b), got, want)
			}
		}
	}
}

// P4.1: versions that differ in one of the three numbers alone, or in more of which the leftmost counts.
func TestNumbersStandFromTheLeft(t *testing.T) {
	numbers := []uint64{0, 1, 9, 10, maxField - 1, maxField, 1 << 63, math.MaxUint64}
	for i, x := range numbers {
		for _, y := range numbers[i+1:] {
			for _, r := range [][]string{nil, {"0"}, {"a", "1"}} {
				for _, c := range [][2]api.Version{
					{version(x, 5, 5, r, nil), version(y, 5, 5, r, nil)}, {version(5, x, 5, r, nil), version(5, y, 5, r, nil)}, {version(5, 5, x, r, nil), version(5, 5, y, r, nil)},
					{version(x, y, 5, r, nil), version(y, x, 5, r, nil)}, {version(x, 5, y, r, nil), version(y, 5, x, r, nil)}, {version(5, x, y, r, nil), version(5, y, x, r, nil)},
					{version(x, y, y, r, nil), version(y, x, x, r, nil)}, {version(5, 5, x, nil, r), version(5, 5, y, row("0"), nil)}, {version(x, 0, 0, nil, r), version(y, 0, 0, row("0"), nil)},
				} {
					if Compare(c[0], c[1]) != -1 || Compare(c[1], c[0]) != 1 || Full(c[0], c[1]) != -1 || Full(c[1], c[0]) != 1 {
						t.Errorf("%v doesn't stand ahead of %v", c[0], c[1])
					}
				}
			}
		}
	}
}

// P4.1: of like numbers one with identifiers ahead of release stands ahead of one without, whatever the identifiers.
func TestIdentifiersStandAheadOfRelease(t *testing.T) {
	for _, pre := range [][]string{{"0"}, {"z"}, {"zz", "zz"}, {"99999999999999999999"}, {"-"}, many("z", 16), {strings.Repeat("z", 255)}, {""}, {"\xff"}, many("z", 17)} {
		for _, without := range [][]string{nil, {}, row("a")[:0]} {
			for _, build := range [][]string{nil, {"0"}, {"z"}} {
				a, b := version(1, 2, 3, pre, build), version(1, 2, 3, without, row("b"))
				if Compare(a, b) != -1 || Compare(b, a) != 1 || Full(a, b) != -1 || Full(b, a) != 1 {
					t.Errorf("%.60v doesn't stand ahead of %v", a, b)
				}
			}
		}
	}
}

// P4.1: builds don't count in precedence; in the full order they stand as their rows do, one without a build first.
func TestBuildsCountInTheFullOrderAlone(t *testing.T) {
	builds := [][]string{nil, {"0"}, {"0", "0"}, {"00"}, {"1"}, {"01"}, {"001"}, {"2"}, {"10"}, {"-"}, {"0a"}, {"A"}, {"a"}, {"a", "0"}, {"a", "a"}, {"aa"}, {"b"}}
	for _, v := range []api.Version{version(0, 0, 0, nil, nil), version(1, 2, 3, nil, nil), version(1, 2, 3, row("0"), nil), version(1, 2, 3, row("rc", "1"), nil), version(maxField, 0, 0, many("a", 16), nil)} {
		for i := range builds {
			for k := range builds {
				a, b := v, v
				a.Build, b.Build = builds[i], builds[k]
				if got := Compare(a, b); got != 0 {
					t.Errorf("Compare(%v, %v) = %d: builds don't count", a, b, got)
				}
				if got, want := Full(a, b), bytes.Compare([]byte{byte(i)}, []byte{byte(k)}); got != want {
					t.Errorf("Full(%v, %v) = %d, want %d", a, b, got, want)
				}
			}
		}
	}
}

// P4.1 and P4.4: right versions and wrong ones, each against each, by the second way; and back.
func TestOrdersBothWays(t *testing.T) {
	for _, wrong := range []bool{false, true} {
		l := edgeVersions(wrong)
		by := func(of func(a api.Version) []key) (all [][]key) {
			for _, v := range l {
				all = append(all, of(v))
			}
			return all
		}
		short := by(func(v api.Version) []key { return keys(v, false) })
		full := by(func(v api.Version) []key { return keys(v, true) })
		for i, a := range l {
			for k, b := range l {
				c, f := Compare(a, b), Full(a, b)
				if want := slices.CompareFunc(short[i], short[k], compareKeys); c != want {
					t.Fatalf("Compare(%.80v, %.80v) = %d, want %d", a, b, c, want)
				}
				if want := slices.CompareFunc(full[i], full[k], compareKeys); f != want {
					t.Fatalf("Full(%.80v, %.80v) = %d, want %d", a, b, f, want)
				}
				if Compare(b, a) != -c || Full(b, a) != -f {
					t.Fatalf("%.80v and %.80v stand otherwise the other way round", a, b)
				}
			}
		}
	}
}

// P4.4: Full is an order of versions, 0 just of what is the same; Compare one of what is like in it, that is but for builds the same.
func TestOrdersTellWhatIsTheSame(t *testing.T) {
	for _, wrong := range []bool{false, true} {
		l := edgeVersions(wrong)
		for i, a := range l {
			for k, b := range l {
				if got := Full(a, b) == 0; got != (i == k) {
					t.Fatalf("Full(%.80v, %.80v) tells the same: %v", a, b, got)
				}
				x, y := a, b
				x.Build, y.Build = nil, nil
				if got := Compare(a, b) == 0; got != like(x, y) {
					t.Fatalf("Compare(%.80v, %.80v) tells what is like: %v", a, b, got)
				}
			}
		}
	}
}

// P4.4: of three versions, if the first doesn't stand behind the second, nor that behind the third, the first doesn't behind the third.
func TestOrdersOfThree(t *testing.T) {
	var l []api.Version
	for i, v := range append(edgeVersions(false), edgeVersions(true)...) {
		if i%13 == 0 {
			l = append(l, v)
		}
	}
	for name, compare := range map[string]func(a, b api.Version) int{"Compare": Compare, "Full": Full} {
		for _, a := range l {
			for _, b := range l {
				ab := compare(a, b)
				if ab > 0 {
					continue
				}
				for _, c := range l {
					bc, ac := compare(b, c), compare(a, c)
					if bc <= 0 && (ac > 0 || ac == 0 && ab+bc < 0 || ac < 0 && ab+bc == 0) {
						t.Fatalf("%s isn't an order of %.60v, %.60v and %.60v", name, a, b, c)
					}
				}
			}
		}
	}
}

// P4.1, R3 and R4: lists without elements are alike, and what lies behind the length doesn't count, nor is it written.
func TestOrdersTakeListsByTheirElements(t *testing.T) {
	for _, none := range [][]string{nil, {}, row("x")[:0]} {
		for _, other := range [][]string{nil, {}, row("y")[:0]} {
			a, b := version(1, 2, 3, none, other), version(1, 2, 3, other, none)
			if Compare(a, b) != 0 || Full(a, b) != 0 {
				t.Errorf("%#v and %#v don't stand alike", a, b)
			}
		}
	}
	l, m := row("a", "b"), row("a", "c")
	a, b := version(1, 2, 3, l[:1], m[:1]), version(1, 2, 3, m[:1], l[:1])
	if Compare(a, b) != 0 || Full(a, b) != 0 || l[1] != "b" || m[1] != "c" {
		t.Error("an order reads behind the length, or writes")
	}
}

// P4.2: the versions in the full order.
func TestSortPutsVersionsInTheFullOrder(t *testing.T) {
	want := readAll(t, "0.0.0-0", "0.0.0-0+a", "0.0.0", "0.1.0", "1.0.0-a", "1.0.0-a+0", "1.0.0-rc.2", "1.0.0-rc.10", "1.0.0", "1.0.0+0", "1.0.0+00", "1.0.0+a", "1.0.0+a.0", "1.0.0+b", "2.0.0-0", "2.0.0", "10.0.0")
	for step := 1; step < 17; step++ {
		var l []api.Version
		for i := range want {
			l = append(l, want[(i*step+3)%17])
		}
		if got := Sort(l); !likeAll(got, want) {
			t.Errorf("Sort(%v) = %v", l, got)
		}
	}
	back := slices.Clone(want)
	slices.Reverse(back)
	if got := Sort(back); !likeAll(got, want) {
		t.Errorf("Sort of falling versions = %v", got)
	}
	if got := Sort(want); !likeAll(got, want) {
		t.Errorf("Sort of rising versions = %v", got)
	}
}

// P4.2: lists that are empty, and of one version.
func TestSortOfShortLists(t *testing.T) {
	full := []api.Version{version(2, 0, 0, nil, nil), version(1, 0, 0, nil, nil)}
	for _, l := range [][]api.Version{nil, {}, full[:0]} {
		if got := Sort(l); len(got) != 0 {
			t.Errorf("Sort of no version = %v", got)
		}
	}
	for _, v := range append(edgeVersions(false), edgeVersions(true)...) {
		if got := Sort([]api.Version{v}); len(got) != 1 || !like(got[0], v) {
			t.Errorf("Sort of %.80v = %.80v", v, got)
		}
	}
	if got := Sort(full[:1]); len(got) != 1 || !like(got[0], full[0]) {
		t.Errorf("Sort reads behind the length: %v", got)
	}
}

// P4.2: no version is left out, and none comes in, however often it stands there; wrong ones stand too.
func TestSortOfManyVersions(t *testing.T) {
	for _, l := range [][]api.Version{edgeVersions(false), edgeVersions(true)} {
		var mixed []api.Version
		for i := range len(l) / 5 {
			mixed = append(mixed, l[(i*37+5)%len(l)], l[(i*36)%len(l)])
		}
		if got, want := Sort(mixed), wantedSort(mixed); !likeAll(got, want) {
			t.Error("Sort of many versions isn't what the second way has")
		}
	}
}

// P4.2: versions that are alike stand in the list's order. Only where their texts lie tells them apart.
func TestSortKeepsTheOrderOfWhatIsAlike(t *testing.T) {
	for _, n := range []int{2, 3, 11, 12, 13, 20, 50, 300, 2000} {
		var l []api.Version
		for i := range n {
			pre, build := row(strings.Clone("rc")), row(strings.Clone("b"))
			l = append(l, version(uint64(i*7%3), 0, 0, pre, build))
		}
		places := map[*byte]int{}
		for i, v := range l {
			places[unsafe.StringData(v.Pre[0])] = i
			places[unsafe.StringData(v.Build[0])] = i
		}
		got := Sort(l)
		last, lastMajor := -1, uint64(0)
		for i, v := range got {
			place := places[unsafe.StringData(v.Pre[0])]
			if v.Major == lastMajor && place <= last || v.Major < lastMajor {
				t.Fatalf("Sort of %d versions: those that are alike are out of order at %d", n, i)
			}
			if place != places[unsafe.StringData(v.Build[0])] {
				t.Fatalf("Sort of %d versions: a version has another one's build", n)
			}
			last, lastMajor = place, v.Major
		}
	}
}

// P4.2, R4: the list is left as it was, what lies behind its length too.
func TestSortLeavesTheListAsItWas(t *testing.T) {
	whole := readAll(t, "3.0.0+b", "2.0.0-a.b+c.d", "1.0.0", "0.5.0-a", "0.1.0+z")
	for n := range len(whole) + 1 {
		was := deepCopy(whole)
		Sort(whole[:n])
		if !likeAll(whole, was) {
			t.Fatalf("Sort of %d of them left %v", n, whole)
		}
	}
}

// P4.2, R4: what is answered is new: written over and grown it changes nothing else, down to the rows.
func TestSortAnswersNewMemory(t *testing.T) {
	long := row("a", "b", "c", "d")
	l := []api.Version{version(2, 0, 0, long[:1], long[2:3]), version(1, 0, 0, long[:2], long[:2]), version(1, 0, 0, long[:2], nil), version(0, 0, 0, long[:0], long[:0])}
	was, rowWas := deepCopy(l), slices.Clone(long)
	got := Sort(l)
	fresh := deepCopy(got)
	if want := deepCopy([]api.Version{l[3], l[2], l[1], l[0]}); !likeAll(got, want) {
		t.Fatalf("Sort = %v, want %v", got, want)
	}
	for i := range got {
		lists := []*[]string{&got[i].Pre, &got[i].Build}
		for _, p := range lists {
			for k := range *p {
				(*p)[k] = "written over"
			}
			*p = append(*p, "grown", "grown", "grown")
		}
		if !likeAll(got[i+1:], fresh[i+1:]) {
			t.Fatalf("lists of one answer share memory: %v", got)
		}
	}
	for i := range got {
		got[i].Major = 7
	}
	_ = append(got, version(9, 9, 9, nil, nil))
	if !likeAll(l, was) || !slices.Equal(long, rowWas) {
		t.Fatalf("the answer shares memory with the list: %v, %q", l, long)
	}
	if again := Sort(l); !likeAll(again, fresh) {
		t.Errorf("a second answer is another one: %v", again)
	}
}

// P4.2: the first of a core, which no version of these numbers stands ahead of.
func TestFirstStandsAheadOfItsCore(t *testing.T) {
	for _, v := range append(edgeVersions(false), edgeVersions(true)...) {
		f := First(v.Major, v.Minor, v.Patch)
		if !like(f, version(v.Major, v.Minor, v.Patch, row("0"), nil)) {
			t.Fatalf("First(%d, %d, %d) = %v", v.Major, v.Minor, v.Patch, f)
		}
		if semver.Good(v) && (Compare(f, v) > 0 || Full(f, v) > 0 || !semver.Good(f)) {
			t.Fatalf("%.80v stands ahead of the first of its core", v)
		}
	}
	if s := semver.Text(First(1, 22, 333)); s != "1.22.333-0" {
		t.Errorf("First(1, 22, 333) is %s", s)
	}
	a, b := First(1, 2, 3), First(1, 2, 3)
	a.Pre[0] = "z"
	if b.Pre[0] != "0" || First(1, 2, 3).Pre[0] != "0" {
		t.Error("two answers of First share memory")
	}
}

// P4.3: the ends; none beside false.
func TestEnds(t *testing.T) {
	for _, c := range []struct{ s, caret, tilde string }{
		{"1.2.3", "2.0.0-0", "1.3.0-0"}, {"1.0.0", "2.0.0-0", "1.1.0-0"}, {"1.0.3", "2.0.0-0", "1.1.0-0"}, {"1.2.0", "2.0.0-0", "1.3.0-0"}, {"9.9.9", "10.0.0-0", "9.10.0-0"},
		{"0.2.3", "0.3.0-0", "0.3.0-0"}, {"0.2.0", "0.3.0-0", "0.3.0-0"}, {"0.0.3", "0.0.4-0", "0.1.0-0"}, {"0.0.1", "0.0.2-0", "0.1.0-0"}, {"0.0.0", "0.0.1-0", "0.1.0-0"},
		{"0.0.0-0", "0.0.1-0", "0.1.0-0"}, {"0.0.0-a.b+c", "0.0.1-0", "0.1.0-0"}, {"0.0.0+c", "0.0.1-0", "0.1.0-0"}, {"1.0.0-rc.1", "2.0.0-0", "1.1.0-0"}, {"0.2.3-rc+b", "0.3.0-0", "0.3.0-0"},
		{"9223372036854775806.0.0", "9223372036854775807.0.0-0", "9223372036854775806.1.0-0"},
		{"0.9223372036854775806.5", "0.9223372036854775807.0-0", "0.9223372036854775807.0-0"},
		{"0.0.9223372036854775806", "0.0.9223372036854775807-0", "0.1.0-0"},
		{"9223372036854775807.0.0", "", "9223372036854775807.1.0-0"},
		{"9223372036854775807.3.4-a", "", "9223372036854775807.4.0-0"},
		{"9223372036854775807.9223372036854775806.4", "", "9223372036854775807.9223372036854775807.0-0"},
		{"0.9223372036854775807.0", "", ""}, {"0.9223372036854775807.1+b", "", ""},
		{"0.0.9223372036854775807", "", "0.1.0-0"}, {"1.9223372036854775807.9", "2.0.0-0", ""}, {"1.2.9223372036854775807", "2.0.0-0", "1.3.0-0"}, {"0.2.9223372036854775807", "0.3.0-0", "0.3.0-0"},
		{"9223372036854775807.9223372036854775807.9223372036854775807", "", ""},
	} {
		v := read(t, c.s)
		for _, w := range []struct {
			name, want string
			of         func(api.Version) (api.Version, bool)
		}{{"Caret", c.caret, Caret}, {"Tilde", c.tilde, Tilde}} {
			end, ok := w.of(v)
			if ok != (w.want != "") || ok && semver.Text(end) != w.want || !ok && !like(end, api.Version{}) {
				t.Errorf("%s(%s) = %v, %v, want %q", w.name, c.s, end, ok, w.want)
			}
		}
	}
}

// P4.3 and P1: of versions that aren't right too the ends hang on the one number that is to be one more.
func TestEndsOfWrongVersions(t *testing.T) {
	numbers := []uint64{0, 1, maxField - 1, maxField, 1 << 63, 1<<63 + 1, math.MaxUint64 - 1, math.MaxUint64}
	for _, x := range numbers {
		for _, y := range numbers {
			for _, z := range numbers {
				for _, r := range [][]string{nil, {"01"}, {""}, many("a", 17)} {
					v := version(x, y, z, r, r)
					for _, w := range []struct {
						name     string
						of, want func(api.Version) (api.Version, bool)
					}{{"Caret", Caret, wantedCaret}, {"Tilde", Tilde, wantedTilde}} {
						end, ok := w.of(v)
						if want, is := w.want(v); ok != is || !like(end, want) {
							t.Fatalf("%s(%.80v) = %v, %v, want %v, %v", w.name, v, end, ok, want, is)
						}
					}
				}
			}
		}
	}
}

// P4.3, R4: what is handed in isn't changed, and the ends are new.
func TestEndsAreNew(t *testing.T) {
	pre, build := row("rc", "1"), row("b")
	v := version(1, 2, 3, pre[:1], build)
	for _, of := range []func(api.Version) (api.Version, bool){Caret, Tilde} {
		a, _ := of(v)
		b, _ := of(v)
		a.Pre[0] = "z"
		a.Pre = append(a.Pre, "z")
		if c, _ := of(v); b.Pre[0] != "0" || c.Pre[0] != "0" || !slices.Equal(pre, row("rc", "1")) || !slices.Equal(build, row("b")) {
			t.Error("an end shares memory with another one, or with the version")
		}
	}
}

// P4.4: a right version stands ahead of its ends, which are right.
func TestRightVersionsStandAheadOfTheirEnds(t *testing.T) {
	for _, v := range append(edgeVersions(false), rising(t)...) {
		for _, of := range []func(api.Version) (api.Version, bool){Caret, Tilde} {
			end, ok := of(v)
			if ok && (Compare(v, end) != -1 || Full(v, end) != -1 || Compare(end, v) != 1 || !semver.Good(end)) {
				t.Errorf("%.80v doesn't stand ahead of its end %v", v, end)
			}
		}
	}
}

// P1: rows of any length and texts of any bytes end in an answer.
func TestOrdersOfLongRows(t *testing.T) {
	text := strings.Repeat("0", 1<<20)
	a, b := version(1, 2, 3, many("a", 1<<16), row(text)), version(1, 2, 3, many("a", 1<<16+1), row(text+"0"))
	if Compare(a, b) != -1 || Full(b, a) != 1 {
		t.Error("a long row doesn't stand ahead of one that goes on")
	}
	b.Pre = a.Pre
	if Compare(a, b) != 0 || Full(a, b) != -1 || Full(b, a) != 1 {
		t.Error("a long build doesn't stand ahead of a longer one of the same number")
	}
	if got := Sort([]api.Version{b, a}); !likeAll(got, []api.Version{a, b}) {
		t.Error("Sort of versions with long rows")
	}
}

// P1, P4.1 and P4.4: whatever versions are held against each other.
func FuzzOrders(f *testing.F) {
	f.Add(uint64(1), uint64(0), uint64(0), "rc 2", "", uint64(1), uint64(0), uint64(0), "rc 10", "b")
	f.Add(uint64(1), uint64(2), uint64(3), "", "a", uint64(1), uint64(2), uint64(3), "0", "")
	f.Add(uint64(0), uint64(0), uint64(1)<<63, "01", "00", uint64(0), uint64(0), uint64(1)<<63, "1", "0")
	f.Fuzz(func(t *testing.T, x, y, z uint64, pre, build string, p, q, r uint64, otherPre, otherBuild string) {
		a := version(x, y, z, strings.Fields(pre), strings.Fields(build))
		b := version(p, q, r, strings.Fields(otherPre), strings.Fields(otherBuild))
		c := version(x, y, z, b.Pre, b.Build)
		d := version(x, y, z, a.Pre, b.Build)
		l := []api.Version{a, b, c, d, b, a}
		for _, v := range l {
			for _, w := range l {
				if got, want := Compare(v, w), wantedCompare(v, w); got != want {
					t.Fatalf("Compare(%v, %v) = %d, want %d", v, w, got, want)
				}
				if got, want := Full(v, w), wantedFull(v, w); got != want || (got == 0) != like(v, w) {
					t.Fatalf("Full(%v, %v) = %d, want %d", v, w, got, want)
				}
			}
		}
		if got, want := Sort(l), wantedSort(l); !likeAll(got, want) {
			t.Fatalf("Sort(%v) = %v, want %v", l, got, want)
		}
	})
}

// P1, P4.3 and P4.4: whatever version's ends.
func FuzzEnds(f *testing.F) {
	f.Add(uint64(1), uint64(2), uint64(3), "rc 1", "b")
	f.Add(uint64(0), uint64(0), uint64(0), "", "")
	f.Add(uint64(0), uint64(maxField), uint64(1), "", "")
	f.Add(uint64(math.MaxUint64), uint64(0), uint64(0), "01", " ")
	f.Fuzz(func(t *testing.T, major, minor, patch uint64, pre, build string) {
		v := version(major, minor, patch, strings.Fields(pre), strings.Split(build, " "))
		caret, ok := Caret(v)
		if want, is := wantedCaret(v); ok != is || !like(caret, want) {
			t.Fatalf("Caret(%v) = %v, %v", v, caret, ok)
		}
		tilde, there := Tilde(v)
		if want, is := wantedTilde(v); there != is || !like(tilde, want) {
			t.Fatalf("Tilde(%v) = %v, %v", v, tilde, there)
		}
		if ok && Compare(v, caret) != -1 || there && Full(v, tilde) != -1 {
			t.Fatalf("%v doesn't stand ahead of its ends", v)
		}
	})
}
