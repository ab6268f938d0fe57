package sheet

import (
	"strings"
	"testing"

	"ferrule/api"
)

// ahead is what stands ahead of a text's line that is looked at, with all that any line may need; behind is what stands behind it.
func (k kind) ahead() string {
	return []string{"# one\npackage a\nversion 1.0.0\n", "root z *\n", "\npin z 0.0.0\n"}[k]
}

func (k kind) behind() []string {
	return [][]string{
		{"", "\n", "\npackage b\nversion 2.0.0\n", "\nneeds", "\nx\n", "\n\n \n"},
		{"", "\n", "\nroot b *", "\nroot", "\npin a 1.0.0\n", "\n\n-\n"},
		{"", "\n", "\npin b 2.0.0\n", "\npin b", "\nroot a *\n", "\n\n \n"},
	}[k]
}

// wrong is a line, and the fault that it has: the place counts from the line's first byte.
type wrong struct {
	s  string
	at int
	e  api.Errno
}

// expectWrong holds what is read of a line that is wrong, alone and among others, against what it is to be.
func expectWrong(t *testing.T, k kind, lines ...wrong) {
	t.Helper()
	for _, w := range lines {
		for _, behind := range k.behind() {
			expect(t, k, k.ahead()+w.s+behind, refused(len(k.ahead())+w.at, w.e))
		}
	}
}

// firstWords are the words, each with a line of it, and the kind of text that it is of.
var firstWords = []struct {
	word, line string
	k          kind
	needs      int // how many of a package's and a release's line must stand ahead
}{
	{"package", "package b", anIndex, 0}, {"version", "version 2.0.0", anIndex, 1}, {"yanked", "yanked 3.0.0", anIndex, 1}, {"needs", "needs b *", anIndex, 2}, {"bans", "bans b *", anIndex, 2},
	{"root", "root b *", someRoots, 0}, {"pin", "pin b 1.0.0", somePins, 0},
}

// P10.1: each word, first of its text, behind a package, behind a release, and in texts of each kind.
func TestEachWordInEachPlace(t *testing.T) {
	ahead := []string{"", "package a\n", "package a\nversion 1.0.0\n"}
	for _, w := range firstWords {
		for _, k := range kinds {
			for n, s := range ahead {
				for _, behind := range []string{"", "\n", "\nx\n", "\npackage c\nversion 1.0.0"} {
					switch {
					case k != anIndex && n > 0:
						expect(t, k, s+w.line+behind, refused(0, api.ErrLine))
					case k != w.k || n < w.needs:
						expect(t, k, s+w.line+behind, refused(len(s), api.ErrLine))
					case behind == "\nx\n":
						expect(t, k, s+w.line+behind, refused(len(s+w.line)+1, api.ErrLine))
					case k == w.k && (k == anIndex || behind == "" || behind == "\n"):
						if got := k.read([]byte(s + w.line + behind)); got.e != api.OK || got.at != 0 {
							t.Errorf("%d of %q: %v", k, s+w.line+behind, got)
						}
					}
				}
			}
			if k != w.k {
				expect(t, k, k.ahead()+w.line, refused(len(k.ahead()), api.ErrLine))
				expect(t, k, k.ahead()+w.word, refused(len(k.ahead()), api.ErrLine))
				expect(t, k, w.word+" ", refused(0, api.ErrLine))
			}
		}
	}
	for _, s := range []string{
		// A release that stands ahead in another package is no release of the last one.
		"package a\nversion 1.0.0\npackage b\n", "package a\nyanked 1.0.0\nneeds x *\npackage b\n#\n", "package a\n# version 1.0.0\n", "#package a\n\npackage a\n",
	} {
		expect(t, anIndex, s+"needs c *", refused(len(s), api.ErrLine))
		expect(t, anIndex, s+"bans c *", refused(len(s), api.ErrLine))
		// What it lacks is told ahead of what is wrong behind it.
		for _, rest := range []string{"", " ", " -", " c", " c ", " c ^", "  c *", " c 1.0"} {
			expect(t, anIndex, s+"bans"+rest, refused(len(s), api.ErrLine))
			expect(t, anIndex, s+"needs"+rest+"\nx", refused(len(s), api.ErrLine))
		}
	}
	for _, rest := range []string{"", " ", " 1", " 1.0.0 ", "  1.0.0"} {
		expect(t, anIndex, "#\nversion"+rest, refused(2, api.ErrLine))
		expect(t, anIndex, "\n\nyanked"+rest+"\npackage a", refused(2, api.ErrLine))
	}
}

// P10.1: first words that are none.
func TestUnknownWords(t *testing.T) {
	for _, w := range firstWords {
		_, rest, _ := strings.Cut(w.line, " ")
		for n := range len(w.word) {
			for _, s := range []string{w.word[:n], w.word[n+1:], w.word[:n] + w.word[n+1:], w.word[:n] + w.word, w.word[:n+1] + w.word[n:], w.word[:n] + strings.ToUpper(w.word[n:n+1]) + w.word[n+1:], w.word[:n] + " " + w.word[n:], w.word[:n] + "\t" + w.word[n:]} {
				if s == w.word {
					continue
				}
				for _, k := range kinds {
					expectWrong(t, k, wrong{s + " " + rest, 0, api.ErrLine})
					if s != "" {
						expectWrong(t, k, wrong{s, 0, api.ErrLine})
					}
				}
			}
		}
		for c := range 256 {
			s := string([]byte{byte(c)})
			if s == " " || s == "\n" {
				continue
			}
			expectWrong(t, w.k, wrong{w.word + s + " " + rest, 0, api.ErrLine}, wrong{w.word + s + rest, 0, api.ErrLine}, wrong{w.word + s, 0, api.ErrLine})
			if s != "#" {
				expectWrong(t, w.k, wrong{s + w.word + " " + rest, 0, api.ErrLine}, wrong{s, 0, api.ErrLine}, wrong{s + " " + w.line, 0, api.ErrLine})
			}
		}
		expectWrong(t, w.k, wrong{" " + w.line, 0, api.ErrLine}, wrong{"  " + w.line, 0, api.ErrLine}, wrong{" ", 0, api.ErrLine}, wrong{"  ", 0, api.ErrLine}, wrong{"\r", 0, api.ErrLine}, wrong{" #", 0, api.ErrLine}, wrong{w.word + w.line, 0, api.ErrLine})
	}
	for _, s := range []string{"a", "release 1.0.0", "versions 1.0.0", "need b *", "ban b *", "roots", "pins", "lock a 1.0.0", "yank 1.0.0", "*", "1.0.0", "\ufeffpackage a", "packag\u00e9 a", "package\u00a0a", strings.Repeat("package", 1000)} {
		for _, k := range kinds {
			expectWrong(t, k, wrong{s, 0, api.ErrLine})
			expect(t, k, s, refused(0, api.ErrLine))
		}
	}
}

// P10.1: lines that end ahead of a part that is to come.
func TestLinesThatEndTooEarly(t *testing.T) {
	for _, w := range firstWords {
		expectWrong(t, w.k, wrong{w.word, len(w.word), api.ErrEmpty}, wrong{w.word + " ", len(w.word) + 1, api.ErrEmpty})
		if strings.Count(w.line, " ") == 2 {
			for _, name := range []string{"b", "lib-x_1.0", strings.Repeat("a", 255)} {
				s := w.word + " " + name
				expectWrong(t, w.k, wrong{s, len(s), api.ErrEmpty}, wrong{s + " ", len(s) + 1, api.ErrEmpty})
			}
		}
	}
	// Blanks belong to a range, which is what lacks then; they belong to no version.
	expectWrong(t, anIndex, wrong{"needs b  ", 9, api.ErrEmpty}, wrong{"bans b  \t ", 10, api.ErrEmpty}, wrong{"version  ", 8, api.ErrShort}, wrong{"yanked \t", 7, api.ErrShort})
	expectWrong(t, someRoots, wrong{"root b    ", 10, api.ErrEmpty}, wrong{"root b \t", 8, api.ErrEmpty})
	expectWrong(t, somePins, wrong{"pin b  ", 6, api.ErrShort}, wrong{"pin b \t", 6, api.ErrShort})
	// Names that are none are told ahead of what lacks behind them.
	expectWrong(t, somePins, wrong{"pin -", 4, api.ErrName}, wrong{"pin B ", 4, api.ErrName}, wrong{"pin b^", 4, api.ErrName}, wrong{"pin  ", 4, api.ErrName}, wrong{"pin   ", 4, api.ErrName})
}

// P10.1: names that lack, that are none, or behind which something else than a blank stands.
func TestNamesThatAreNone(t *testing.T) {
	for _, w := range firstWords {
		parts := strings.Split(w.line, " ")
		if parts[1] != "b" {
			continue
		}
		rest := strings.Join(append([]string{""}, parts[2:]...), " ")
		at := len(w.word) + 1
		for _, s := range append(wrongNames(), "", " b", "  b", "\tb", "b\t", "b\tc", "b,", "b^1.0.0", "b*", "b#", "bB", "b\x00c", "b\r", "b\u00a0", "b:", "b/c", ">=1.0.0", "(1.0.0)", "!*", "+", "Lib", strings.Repeat("b", 256), strings.Repeat("b", 300)+"-B") {
			// Without a name, and with nothing behind it, the line ends too early.
			if s+rest == "" {
				continue
			}
			expectWrong(t, w.k, wrong{w.word + " " + s + rest, at, api.ErrName})
			if s != "" {
				expectWrong(t, w.k, wrong{w.word + " " + s, at, api.ErrName}, wrong{w.word + " " + s + " ", at, api.ErrName})
			}
		}
		// A name, and each byte behind it.
		for c := range 256 {
			s := string([]byte{byte(c)})
			goesOn := s == "-" || s == "_" || s == "." || "0" <= s && s <= "9" || "a" <= s && s <= "z"
			for _, name := range []string{"b", "b-.9", strings.Repeat("b", 255)} {
				switch {
				case s == "\n" || goesOn && len(name) < 255:
				case s == " " && w.word != "package":
				default:
					expectWrong(t, w.k, wrong{w.word + " " + name + s + rest, at, api.ErrName}, wrong{w.word + " " + name + s, at, api.ErrName})
				}
			}
		}
	}
	// Of package anything is too much.
	for _, s := range []string{"package b ", "package b  ", "package b c", "package b 1.0.0", "package b *", "package b #", "package b package b", "package b\r", "package b\t", "package b \r"} {
		expectWrong(t, anIndex, wrong{s, 8, api.ErrName})
	}
}

// P10.1: blanks and tabs where one blank is to stand.
func TestBlanks(t *testing.T) {
	expectWrong(t, anIndex,
		wrong{"package  b", 8, api.ErrName}, wrong{"package\tb", 0, api.ErrLine}, wrong{"package \tb", 8, api.ErrName},
		wrong{"version  2.0.0", 8, api.ErrShort}, wrong{"version\t2.0.0", 0, api.ErrLine}, wrong{"version \t2.0.0", 8, api.ErrShort}, wrong{"version 2.0.0 ", 13, api.ErrLine}, wrong{"yanked 2.0.0\t", 12, api.ErrLine},
		wrong{"needs  b *", 6, api.ErrName}, wrong{"needs\tb *", 0, api.ErrLine}, wrong{"needs b\t*", 6, api.ErrName}, wrong{"bans \tb *", 5, api.ErrName}, wrong{"bans   b *", 5, api.ErrName},
	)
	expectWrong(t, someRoots, wrong{"root  b *", 5, api.ErrName}, wrong{"root\tb *", 0, api.ErrLine}, wrong{"root b\t*", 5, api.ErrName}, wrong{"root b * *x", 10, api.ErrLine}, wrong{"root b * ^x", 10, api.ErrForm}, wrong{"root b * x", 9, api.ErrLine})
	expectWrong(t, somePins, wrong{"pin  b 1.0.0", 4, api.ErrName}, wrong{"pin\tb 1.0.0", 0, api.ErrLine}, wrong{"pin b\t1.0.0", 4, api.ErrName}, wrong{"pin b  1.0.0", 6, api.ErrShort}, wrong{"pin b \t1.0.0", 6, api.ErrShort}, wrong{"pin b 1.0.0 ", 11, api.ErrLine}, wrong{"pin b 1.0.0 2.0.0", 11, api.ErrLine})
	// Those that belong to a range are none too many.
	for _, r := range []string{"*", " *", "  *", "\t*", "* ", "*\t", " \t * \t "} {
		expect(t, someRoots, "root b "+r, rootsOf(dep("b", "*")))
		expect(t, someRoots, "root b "+r+"\nroot c 1.0.0", rootsOf(dep("b", "*"), dep("c", "1.0.0")))
		expect(t, anIndex, "package a\nversion 1.0.0\nneeds b "+r+"\nbans c "+r, indexOf(pack("a", release("1.0.0", needs("b", "*"), bans("c", "*")))))
	}
}

// P10.1: carriage returns ahead of newlines.
func TestCarriageReturns(t *testing.T) {
	expect(t, anIndex, "package a\r\nversion 1.0.0\r\n", refused(8, api.ErrName))
	expectWrong(t, anIndex, wrong{"\r", 0, api.ErrLine}, wrong{"version 2.0.0\r", 13, api.ErrLine}, wrong{"yanked 2.0.0-rc\r", 15, api.ErrLine}, wrong{"needs b *\r", 9, api.ErrLine}, wrong{"bans b ^1.0.0 \r", 14, api.ErrLine}, wrong{"needs b\r", 6, api.ErrName}, wrong{"needs\r", 0, api.ErrLine}, wrong{"needs \r", 6, api.ErrName}, wrong{"needs b \r", 8, api.ErrForm}, wrong{"version \r", 8, api.ErrShort})
	expectWrong(t, someRoots, wrong{"root b 1.0.0\r", 12, api.ErrLine}, wrong{"root b 1.0.0, \r", 14, api.ErrForm})
	expectWrong(t, somePins, wrong{"pin b 1.0.0\r", 11, api.ErrLine}, wrong{"pin b 1.0\r", 9, api.ErrForm})
	for _, k := range kinds {
		expect(t, k, "# a\r\n#\r\n", answer{})
		expect(t, k, "\r\n", refused(0, api.ErrLine))
		expect(t, k, "\n\r", refused(1, api.ErrLine))
	}
}

// versionFaults are texts that are no versions: where, and why.
func versionFaults() []wrong {
	long := strings.Repeat("a", 256)
	return []wrong{
		{"1", 1, api.ErrShort}, {"1.", 2, api.ErrShort}, {"1.2", 3, api.ErrShort}, {"1.2.", 4, api.ErrShort}, {"x", 0, api.ErrShort}, {".1.2", 0, api.ErrShort}, {"1..2", 2, api.ErrShort}, {"v1.0.0", 0, api.ErrShort}, {"=1.0.0", 0, api.ErrShort}, {"-1.0.0", 0, api.ErrShort}, {"*", 0, api.ErrShort}, {"\x00", 0, api.ErrShort}, {"\xff1.0.0", 0, api.ErrShort}, {"1.x.0", 2, api.ErrShort},
		{"1x", 1, api.ErrForm}, {"1 2 3", 1, api.ErrForm}, {"01.0.0", 0, api.ErrForm}, {"1.00.0", 2, api.ErrForm}, {"1.0.01", 4, api.ErrForm}, {"1.0-rc", 3, api.ErrForm}, {"1.0+b", 3, api.ErrForm}, {"1.0.0-01", 6, api.ErrForm}, {"1.0.0-a.00", 6, api.ErrForm},
		{"9223372036854775808.0.0", 0, api.ErrLarge}, {"0.18446744073709551616.0", 2, api.ErrLarge}, {"0.0.99999999999999999999", 4, api.ErrLarge}, {"1.0.0-" + long, 6, api.ErrLarge}, {"1.0.0-rc+" + long, 9, api.ErrLarge}, {"1.0.0+" + strings.Repeat("1.", 16) + "1", 6, api.ErrLarge},
		{"1.0.0-", 6, api.ErrEmpty}, {"1.0.0+", 6, api.ErrEmpty}, {"1.0.0-rc.", 6, api.ErrEmpty}, {"1.0.0-+b", 6, api.ErrEmpty}, {"1.0.0+b..c", 6, api.ErrEmpty}, {"1.0.0- rc", 6, api.ErrEmpty},
	}
}

// P10.1: each error of a version, at its place, at the first, a middle and the last line.
func TestErrorsOfVersions(t *testing.T) {
	for _, f := range append(versionFaults(), wrong{"1.0.0 ", 5, api.ErrLine}, wrong{"1.0.0.0", 5, api.ErrLine}, wrong{"1.0.0-rc_1", 8, api.ErrLine}, wrong{"1.0.0+b+c", 7, api.ErrLine}, wrong{"1.0.0 1.0.0", 5, api.ErrLine}, wrong{"1.0.0x", 5, api.ErrLine}, wrong{"1.0.0-rc\xff", 8, api.ErrLine}, wrong{"1.0.0\x00", 5, api.ErrLine}) {
		expectWrong(t, anIndex, wrong{"version " + f.s, 8 + f.at, f.e}, wrong{"yanked " + f.s, 7 + f.at, f.e})
		expectWrong(t, somePins, wrong{"pin lib " + f.s, 8 + f.at, f.e})
		expect(t, somePins, "pin b "+f.s, refused(6+f.at, f.e))
		expect(t, somePins, "pin b "+f.s+"\n", refused(6+f.at, f.e))
		expect(t, somePins, "pin b "+f.s+"\npin c 1.0.0", refused(6+f.at, f.e))
		expect(t, anIndex, "package a\nyanked "+f.s+"\nversion x", refused(17+f.at, f.e))
	}
}

// rangeFaults are texts that are no ranges: where, and why.
func rangeFaults() []wrong {
	deep := strings.Repeat("!(", 32)
	all := []wrong{
		{"^", 1, api.ErrEmpty}, {"(1.0.0", 6, api.ErrEmpty}, {"1.0.0 ||", 8, api.ErrEmpty}, {"1.0.0,", 6, api.ErrEmpty}, {"!", 1, api.ErrEmpty}, {"! ", 2, api.ErrEmpty}, {">= ", 3, api.ErrEmpty}, {"(", 1, api.ErrEmpty},
		{"x", 0, api.ErrForm}, {"|| 1.0.0", 0, api.ErrForm}, {"()", 1, api.ErrForm}, {"=>1.0.0", 1, api.ErrForm}, {"1.0.0 || , ", 9, api.ErrForm}, {"> =1.0.0", 2, api.ErrForm}, {"(* x", 3, api.ErrForm}, {"-", 0, api.ErrForm}, {"\x00", 0, api.ErrForm}, {"* ^\xff", 3, api.ErrForm},
		{deep + "!*", 64, api.ErrDeep}, {"* || " + deep + "(1.0.0", 69, api.ErrDeep},
		{"* )", 2, api.ErrLine}, {"1.0.0 | 2.0.0", 6, api.ErrLine}, {"1.0.0 x", 6, api.ErrLine}, {"*\x00", 1, api.ErrLine}, {"* a", 2, api.ErrLine}, {"1.0.0.0", 5, api.ErrLine},
	}
	for _, f := range versionFaults() {
		if strings.HasPrefix(f.s, "1") || strings.HasPrefix(f.s, "0") || strings.HasPrefix(f.s, "9") {
			all = append(all, f, wrong{" ^ " + f.s, 3 + f.at, f.e}, wrong{"*, !(2.0.0 || <" + f.s, 15 + f.at, f.e})
		}
	}
	return all
}

// P10.1: each error of a range, likewise.
func TestErrorsOfRanges(t *testing.T) {
	for _, f := range rangeFaults() {
		expectWrong(t, anIndex, wrong{"needs b " + f.s, 8 + f.at, f.e}, wrong{"bans lib " + f.s, 9 + f.at, f.e})
		expectWrong(t, someRoots, wrong{"root lib " + f.s, 9 + f.at, f.e})
		expect(t, someRoots, "root b "+f.s, refused(7+f.at, f.e))
		expect(t, someRoots, "root b "+f.s+"\n", refused(7+f.at, f.e))
		expect(t, someRoots, "root b "+f.s+"\nroot c *", refused(7+f.at, f.e))
		expect(t, anIndex, "package a\nversion 1.0.0\nneeds b *\nbans b "+f.s+"\nbans", refused(41+f.at, f.e))
	}
}

// wrongLines are lines of each fault of a kind of text.
func wrongLines(k kind) []wrong {
	switch k {
	case anIndex:
		return []wrong{{"x", 0, api.ErrLine}, {"package", 7, api.ErrEmpty}, {"package -", 8, api.ErrName}, {"package c ", 8, api.ErrName}, {"version ", 8, api.ErrEmpty}, {"version 1.0", 11, api.ErrShort}, {"yanked 1.0.0 ", 12, api.ErrLine}, {"yanked 01.0.0", 7, api.ErrForm}, {"needs B *", 6, api.ErrName}, {"needs b", 7, api.ErrEmpty}, {"needs b ^", 9, api.ErrEmpty}, {"bans b x", 7, api.ErrForm}, {"bans b * )", 9, api.ErrLine}, {"bans b 1.0.0-", 13, api.ErrEmpty}, {"root a *", 0, api.ErrLine}}
	case someRoots:
		return []wrong{{"package a", 0, api.ErrLine}, {"root", 4, api.ErrEmpty}, {"root ", 5, api.ErrEmpty}, {"root -", 5, api.ErrName}, {"root b, *", 5, api.ErrName}, {"root b", 6, api.ErrEmpty}, {"root b ^x", 8, api.ErrForm}, {"root b 1.0.0 x", 13, api.ErrLine}}
	}
	return []wrong{{"root a *", 0, api.ErrLine}, {"pin", 3, api.ErrEmpty}, {"pin ", 4, api.ErrEmpty}, {"pin -", 4, api.ErrName}, {"pin b@1 1.0.0", 4, api.ErrName}, {"pin b", 5, api.ErrEmpty}, {"pin b 1", 7, api.ErrShort}, {"pin b 1.0.0.0", 11, api.ErrLine}}
}

// P10.1: of several faults the one of the line that stands ahead, in whatever order they stand.
func TestTheFirstLineAtFault(t *testing.T) {
	for _, k := range kinds {
		all := wrongLines(k)
		for i, one := range all {
			expectWrong(t, k, one)
			for j, other := range all {
				s := k.ahead() + one.s + "\n" + other.s + "\n" + all[(3*i+5*j)%len(all)].s
				expect(t, k, s, refused(len(k.ahead())+one.at, one.e))
				middle := strings.TrimPrefix(k.ahead(), "# one\n")
				expect(t, k, k.ahead()+one.s+"\n"+middle+other.s, refused(len(k.ahead())+one.at, one.e))
				expect(t, k, k.ahead()+middle+"\n#\n\n"+one.s+"\n"+other.s+"\n", refused(len(k.ahead()+middle)+4+one.at, one.e))
			}
		}
	}
}

// P10.1: of several faults of one line the one of the part that stands ahead.
func TestTheFirstPartAtFault(t *testing.T) {
	expectWrong(t, anIndex, wrong{"x - ^", 0, api.ErrLine}, wrong{"needs - ^", 6, api.ErrName}, wrong{"needs - ", 6, api.ErrName}, wrong{"needs -", 6, api.ErrName}, wrong{"needs b  -", 9, api.ErrForm}, wrong{"bans b, 01.0.0 x", 5, api.ErrName}, wrong{"bans b 1.0 01.0.0", 10, api.ErrForm}, wrong{"version 1.0 ", 11, api.ErrForm}, wrong{"version 1.0.0- ", 14, api.ErrEmpty}, wrong{"package B ", 8, api.ErrName})
	expectWrong(t, someRoots, wrong{"roots - ^", 0, api.ErrLine}, wrong{"root - ^", 5, api.ErrName}, wrong{"root  ^", 5, api.ErrName}, wrong{"root b * x 01.0.0", 9, api.ErrLine})
	expectWrong(t, somePins, wrong{"pi - 1", 0, api.ErrLine}, wrong{"pin - 1", 4, api.ErrName}, wrong{"pin b 1 x", 7, api.ErrForm})
}

// P10.1: texts that end at each place, and such a line among others.
func TestCutTexts(t *testing.T) {
	for _, k := range kinds {
		for _, s := range append(samples(k), k.ahead()+"\n#\n\n"+samples(k)[2]) {
			for n := range len(s) + 1 {
				check(t, s[:n])
				check(t, s[n:])
				check(t, s[:n]+"\n"+s[n:])
			}
		}
	}
	line := refused(0, api.ErrLine)
	for n, want := range []answer{
		{}, line, line, line, refused(4, api.ErrEmpty), refused(5, api.ErrEmpty), refused(6, api.ErrEmpty), refused(7, api.ErrEmpty), refused(8, api.ErrEmpty), refused(9, api.ErrShort), refused(10, api.ErrShort), refused(11, api.ErrShort), refused(12, api.ErrShort),
		rootsOf(dep("a", "^1.2.3")), refused(14, api.ErrEmpty), rootsOf(dep("a", "^1.2.3 *")),
	} {
		expect(t, someRoots, "root a ^1.2.3,*"[:n], want)
	}
}

// P10.1: each byte in each place of a text, one more and one instead.
func TestEachByteInEachPlace(t *testing.T) {
	for _, k := range kinds {
		s := samples(k)[2]
		for at := range len(s) + 1 {
			for c := range 256 {
				b := string([]byte{byte(c)})
				check(t, s[:at]+b+s[at:])
				check(t, s[:at]+b+s[min(at+1, len(s)):])
			}
		}
	}
}
