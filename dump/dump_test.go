package dump

import (
	"fmt"
	"math"
	"regexp"
	"slices"
	"strconv"
	"strings"
	"testing"

	"rivet/api"
	"rivet/object"
)

// shown is an object for a message, cut where it is long.
func shown(o api.Obj) string {
	return fmt.Sprintf("%.300s", fmt.Sprintf("%X %d %#v", o.Words, o.Sites, o.Syms))
}

func isSame(a, b api.Obj) bool {
	return slices.Equal(a.Words, b.Words) && slices.Equal(a.Sites, b.Sites) && slices.Equal(a.Syms, b.Syms)
}

func isNothing(o api.Obj) bool { return o.Words == nil && o.Sites == nil && o.Syms == nil }

func copied(o api.Obj) api.Obj {
	return api.Obj{Words: slices.Clone(o.Words), Sites: slices.Clone(o.Sites), Syms: slices.Clone(o.Syms)}
}

func sym(name string, at int) api.Sym { return api.Sym{Name: name, At: at} }

// hexOf is P11.1 by division, from the lowest digit on.
func hexOf(x uint32) string {
	s := ""
	for range 8 {
		s = "0123456789ABCDEF"[x%16:][:1] + s
		x /= 16
	}
	return s
}

// wantPut is P11.2 of an object that may be, word by word.
func wantPut(o api.Obj) string {
	var s strings.Builder
	for at, w := range o.Words {
		if slices.Contains(o.Sites, at) {
			s.WriteString("addr ")
		} else {
			s.WriteString("word ")
		}
		s.WriteString(hexOf(w) + "\n")
	}
	for _, n := range o.Syms {
		s.WriteString("name " + n.Name + " " + hexOf(uint32(n.At)) + "\n")
	}
	return s.String()
}

func putIs(t *testing.T, name string, o api.Obj, want string) {
	t.Helper()
	if s, e := Put(o); e != api.OK || s != want {
		t.Errorf("%s: Put(%s) = %.300q, %d, want %.300q", name, shown(o), s, e, want)
	}
}

func takeIs(t *testing.T, name, s string, want api.Obj) {
	t.Helper()
	if o, e := Take(s); e != api.OK || !isSame(o, want) {
		t.Errorf("%s: Take(%.300q) = %s, %d, want %s", name, s, shown(o), e, shown(want))
	}
}

// putFails and takeFails ask for the error, and that nothing else is told beside it (R2).
func putFails(t *testing.T, name string, o api.Obj, want api.Errno) {
	t.Helper()
	if s, e := Put(o); e != want || s != "" {
		t.Errorf("%s: Put(%s) of %d words = %.100q, %d, want the error %d", name, shown(o), len(o.Words), s, e, want)
	}
}

func takeFails(t *testing.T, name, s string, want api.Errno) {
	t.Helper()
	if o, e := Take(s); e != want || !isNothing(o) {
		t.Errorf("%s: Take(%.300q) = %s, %d, want the error %d", name, s, shown(o), e, want)
	}
}

// P11.1: digits

func digitsAre(t *testing.T, x uint32, want string) {
	t.Helper()
	if s := Hex(x); s != want {
		t.Errorf("Hex(%d) = %q, want %q", x, s, want)
	}
	if n, ok := Number(want); n != x || !ok {
		t.Errorf("Number(%q) = %d, %v, want %d", want, n, ok, x)
	}
}

func isNoNumber(t *testing.T, s string) {
	t.Helper()
	if n, ok := Number(s); n != 0 || ok {
		t.Errorf("Number(%.100q) = %d, %v, want false", s, n, ok)
	}
}

func TestDigitsOfWords(t *testing.T) {
	for x, want := range map[uint32]string{
		0: "00000000", 1: "00000001", 9: "00000009", 10: "0000000A", 15: "0000000F", 16: "00000010", 255: "000000FF", 256: "00000100", 1024: "00000400", 4096: "00001000",
		0x01234567: "01234567", 0x89ABCDEF: "89ABCDEF", 0xFEDCBA98: "FEDCBA98", 0x76543210: "76543210", 0xABCDEF: "00ABCDEF",
		2147483647: "7FFFFFFF", 2147483648: "80000000", 4294967295: "FFFFFFFF", 4294967294: "FFFFFFFE", 0x35564952: "35564952",
	} {
		digitsAre(t, x, want)
	}
}

func TestEachDigitInEachPlace(t *testing.T) {
	for place := range 8 {
		for n, c := range "0123456789ABCDEF" {
			zeros, all := []byte("00000000"), []byte("FFFFFFFF")
			zeros[7-place], all[7-place] = byte(c), byte(c)
			digitsAre(t, uint32(n)<<(4*place), string(zeros))
			digitsAre(t, uint32(15-n)<<(4*place)^0xFFFFFFFF, string(all))
		}
	}
}

func TestDigitsOfManyWords(t *testing.T) {
	for x := range uint32(1 << 17) {
		digitsAre(t, x, hexOf(x))
		digitsAre(t, x*0x9E3779B1, hexOf(x*0x9E3779B1))
	}
}

// noNumbers are texts that are Hex of no word, and have neither a newline nor eight digits alone.
func noNumbers() []string {
	return []string{
		"", "0", "0000000", "000000000", "FFFFFFF", "FFFFFFFFF", "0000000000000000", "100000000",
		"0000000a", "a0000000", "abcdefab", "ffffffff", "FFFFFFFf", "0000000G", "G0000000", "0000000Z", "0000000@", "0000000/", "0000000:", "0000000`", "0000000g",
		"+0000000", "-0000000", "-0000001", "+00000000", "-00000000", "0x000000", "0X000000", "0x00000000", "0000_000", "0000000.", "0.000000",
		" 0000000", "0000000 ", "0000 000", " 00000000", "00000000 ", "0000000\t", "0000000\r", "00000000\r", "0000000\v", "0000000\f", "0000000\x00", "00000000\x00", "\x0000000000",
		"0000000\x80", "0000000\xff", "\xff\xff\xff\xff\xff\xff\xff\xff", "\x80\x80\x80\x80\x80\x80\x80\x80", "000000\xc3\x28", "000000\xc0\xb0", "00000\xe0\x80\xb0", "00000\xed\xa0\x80",
		// Runes that are digits, or letters, of other kinds, or whose lowest byte is one of these.
		"000000\u0660", "00000\uff10", "00000\uff21", "000000\u0410", "000000\u0130", "000000\u0141", "00000\u3030", "0000\U0001d7ce", "0000\U0001d7f6", "00000\ufffd",
		"0000000\u0660", "0000000\uff10", "\u0660\u0661\u0662\u0663\u0664\u0665\u0666\u0667", "\uff10\uff11\uff12\uff13\uff14\uff15\uff16\uff17", "\u0130\u0131\u0132\u0133",
	}
}

func TestTextsThatAreNoNumbers(t *testing.T) {
	for _, s := range append(noNumbers(), "0000000\n", "00000000\n", "\n0000000", "\n00000000", "\n\n\n\n\n\n\n\n") {
		isNoNumber(t, s)
	}
}

func TestEachByteInEachPlace(t *testing.T) {
	for _, whole := range []string{"00000000", "FFFFFFFF", "89ABCDEF", "01234567"} {
		for place := range 8 {
			for c := range 256 {
				b := []byte(whole)
				b[place] = byte(c)
				if !strings.Contains("0123456789ABCDEF", string(b[place:place+1])) {
					isNoNumber(t, string(b))
				} else if n, ok := Number(string(b)); !ok || hexOf(n) != string(b) {
					t.Errorf("Number(%q) = %d, %v", b, n, ok)
				}
			}
		}
	}
}

func TestEachRune(t *testing.T) {
	for c := rune(128); c <= 0x10FFFF; c++ {
		s := string(c)
		zeros := "00000000"[len(s):]
		isNoNumber(t, s+zeros)
		isNoNumber(t, zeros+s)
		isNoNumber(t, "0000000"+s)
	}
}

func TestHowManyDigits(t *testing.T) {
	for _, digit := range []string{"0", "1", "9", "A", "F"} {
		for count := range 80 {
			if count != 8 {
				isNoNumber(t, strings.Repeat(digit, count))
			}
		}
		for _, count := range []int{256, 256 + 8, 65536 + 8, 1<<20 + 8} {
			isNoNumber(t, strings.Repeat(digit, count))
		}
	}
}

// P11.2 to P11.4: objects and their lines

type dumpCase struct {
	name  string
	o     api.Obj
	lines string
}

// dumpCases are objects and their lines, written out.
func dumpCases() []dumpCase {
	return []dumpCase{
		{"an object of nothing", api.Obj{}, ""},
		{"an object of empty lists", api.Obj{Words: []uint32{}, Sites: []int{}, Syms: []api.Sym{}}, ""},
		{"the chapter's example", api.Obj{Words: []uint32{4, 7}, Sites: []int{0}, Syms: []api.Sym{sym("ab", 4)}}, "addr 00000004\nword 00000007\nname ab 00000004\n"},
		{"the word 0", api.Obj{Words: []uint32{0}}, "word 00000000\n"},
		{"the greatest word", api.Obj{Words: []uint32{0xFFFFFFFF}}, "word FFFFFFFF\n"},
		{"words alone", api.Obj{Words: []uint32{0x01234567, 0x89ABCDEF, 0x80000000, 10}}, "word 01234567\nword 89ABCDEF\nword 80000000\nword 0000000A\n"},
		{"words that are alike", api.Obj{Words: []uint32{7, 7, 7}}, "word 00000007\nword 00000007\nword 00000007\n"},
		{"one site", api.Obj{Words: []uint32{4}, Sites: []int{0}}, "addr 00000004\n"},
		{"one site that leads to no word's first byte", api.Obj{Words: []uint32{3}, Sites: []int{0}}, "addr 00000003\n"},
		{"one site behind words", api.Obj{Words: []uint32{5, 6, 0}, Sites: []int{2}}, "word 00000005\nword 00000006\naddr 00000000\n"},
		{"one site ahead of words", api.Obj{Words: []uint32{12, 6, 0x10000}, Sites: []int{0}}, "addr 0000000C\nword 00000006\nword 00010000\n"},
		{"one site between words that are alike", api.Obj{Words: []uint32{4, 4, 4}, Sites: []int{1}}, "word 00000004\naddr 00000004\nword 00000004\n"},
		{"two sites", api.Obj{Words: []uint32{8, 7, 4}, Sites: []int{0, 2}}, "addr 00000008\nword 00000007\naddr 00000004\n"},
		{"all words sites", api.Obj{Words: []uint32{0, 4, 8, 16}, Sites: []int{0, 1, 2, 3}}, "addr 00000000\naddr 00000004\naddr 00000008\naddr 00000010\n"},
		{"a name alone", api.Obj{Syms: []api.Sym{sym("a", 0)}}, "name a 00000000\n"},
		{"a name of eleven bytes", api.Obj{Syms: []api.Sym{sym("eleven_byte", 0)}}, "name eleven_byte 00000000\n"},
		{"a name of twelve bytes", api.Obj{Syms: []api.Sym{sym("twelve_bytes", 0)}}, "name twelve_bytes 00000000\n"},
		{"names that are like what lines begin with", api.Obj{Syms: []api.Sym{sym("addr", 0), sym("name", 0), sym("word", 0)}}, "name addr 00000000\nname name 00000000\nname word 00000000\n"},
		{"names that are like digits", api.Obj{Syms: []api.Sym{sym("A0000000", 0), sym("ABCDEFAB", 0), sym("F", 0)}}, "name A0000000 00000000\nname ABCDEFAB 00000000\nname F 00000000\n"},
		{"names that are like registers", api.Obj{Syms: []api.Sym{sym("R", 0), sym("R123", 0), sym("R1a", 0), sym("r1", 0)}}, "name R 00000000\nname R123 00000000\nname R1a 00000000\nname r1 00000000\n"},
		{"names at the first, a middle and the last place", api.Obj{Words: []uint32{9, 9}, Syms: []api.Sym{sym("a", 0), sym("b", 4), sym("c", 8)}},
			"word 00000009\nword 00000009\nname a 00000000\nname b 00000004\nname c 00000008\n"},
		{"names of unlike lengths at places that fall", api.Obj{Words: []uint32{9, 9, 9}, Syms: []api.Sym{sym("A", 12), sym("aaaa", 12), sym("ab", 0)}},
			"word 00000009\nword 00000009\nword 00000009\nname A 0000000C\nname aaaa 0000000C\nname ab 00000000\n"},
		{"sites and names", api.Obj{Words: []uint32{8, 99, 3}, Sites: []int{0, 2}, Syms: []api.Sym{sym("B", 12), sym("twelve_bytes", 4)}},
			"addr 00000008\nword 00000063\naddr 00000003\nname B 0000000C\nname twelve_bytes 00000004\n"},
	}
}

func manyNames(count int) []api.Sym {
	var l []api.Sym
	for n := range count {
		l = append(l, sym(fmt.Sprintf("name_%07d", n), 0))
	}
	return l
}

func count(to int) []int {
	var l []int
	for n := range to {
		l = append(l, n)
	}
	return l
}

// greatCases are objects at, and just below, the bounds.
func greatCases() []dumpCase {
	var l []dumpCase
	add := func(name string, o api.Obj) { l = append(l, dumpCase{name, o, wantPut(o)}) }
	for _, size := range []int{255, 256, 1023, 1024} {
		full := make([]uint32, size)
		for at := range full {
			full[at] = uint32(4 * (size - at))
		}
		add(fmt.Sprintf("%d words", size), api.Obj{Words: full})
		add(fmt.Sprintf("%d words that are all sites", size), api.Obj{Words: full, Sites: count(size)})
		add(fmt.Sprintf("%d words, the last one a site", size), api.Obj{Words: full, Sites: []int{size - 1}})
		add(fmt.Sprintf("%d words, all but the last one sites", size), api.Obj{Words: full, Sites: count(size - 1)})
		for _, names := range []int{1, 63, 64} {
			syms := manyNames(names)
			for n := range syms {
				syms[n].At = 4 * (size - n)
			}
			add(fmt.Sprintf("%d words that are all sites, and %d names", size, names), api.Obj{Words: full, Sites: count(size), Syms: syms})
		}
	}
	add("63 names", api.Obj{Syms: manyNames(63)})
	add("64 names", api.Obj{Syms: manyNames(64)})
	return l
}

func allCases() []dumpCase { return append(dumpCases(), greatCases()...) }

func TestLinesOfObjects(t *testing.T) {
	for _, c := range allCases() {
		putIs(t, c.name, c.o, c.lines)
		takeIs(t, c.name, c.lines, c.o)
	}
}

func TestWhatWasPutIsTakenAndPutAgain(t *testing.T) {
	for _, c := range allCases() {
		s, e := Put(c.o)
		if e != api.OK {
			t.Fatalf("%s: Put tells %d", c.name, e)
		}
		o, e := Take(s)
		if e != api.OK || !isSame(o, c.o) {
			t.Errorf("%s: taken %s, %d", c.name, shown(o), e)
		}
		putIs(t, c.name+", taken", o, s)
	}
}

// P11.2: objects that may not be

type wrongObject struct {
	name string
	o    api.Obj
	want api.Errno
}

func wrongObjects() []wrongObject {
	three := func(sites []int, syms ...api.Sym) api.Obj {
		return api.Obj{Words: []uint32{8, 99, 3}, Sites: sites, Syms: syms}
	}
	return []wrongObject{
		{"1025 words", api.Obj{Words: make([]uint32, 1025)}, api.ErrBig},
		{"65536 words", api.Obj{Words: make([]uint32, 65536)}, api.ErrBig},
		{"65 names", api.Obj{Syms: manyNames(65)}, api.ErrBig},
		{"256 names", api.Obj{Syms: manyNames(256)}, api.ErrBig},
		{"sites that fall", three([]int{2, 0}), api.ErrSite},
		{"sites that are alike", three([]int{0, 0}), api.ErrSite},
		{"a site below 0", three([]int{-1}), api.ErrSite},
		{"the lowest number as a site", three([]int{math.MinInt}), api.ErrSite},
		{"a site of as many as there are words", three([]int{0, 2, 3}), api.ErrSite},
		{"a site beyond 32 bits", three([]int{1 << 32}), api.ErrSite},
		{"a site of no words", api.Obj{Sites: []int{0}}, api.ErrSite},
		{"a site's word above the end", three([]int{1}), api.ErrValue},
		{"a site's word just above the end", api.Obj{Words: []uint32{5}, Sites: []int{0}}, api.ErrValue},
		{"a site's word of more than 16 bits", api.Obj{Words: []uint32{0x10004}, Sites: []int{0}}, api.ErrValue},
		{"an empty name", three(nil, sym("", 0)), api.ErrName},
		{"a register's name", three(nil, sym("R7", 0)), api.ErrName},
		{"a name of thirteen bytes", three(nil, sym("thirteen_byte", 0)), api.ErrName},
		{"a name with a blank", three(nil, sym("a b", 0)), api.ErrName},
		{"a name with a newline", three(nil, sym("a\n", 0)), api.ErrName},
		{"a name that is no text", three(nil, sym("a\xff", 0)), api.ErrName},
		{"names that fall", three(nil, sym("b", 0), sym("a", 0)), api.ErrName},
		{"names that are alike", three(nil, sym("a", 0), sym("a", 4)), api.ErrName},
		{"a place below 0", three(nil, sym("a", -4)), api.ErrValue},
		{"a place that is no multiple of 4", three(nil, sym("a", 2)), api.ErrValue},
		{"a place above the end", three(nil, sym("a", 16)), api.ErrValue},
		{"a place that is 0 in 32 bits", three(nil, sym("a", 1<<32)), api.ErrValue},
		{"a place that is 4 in 32 bits", three(nil, sym("a", 4-1<<32)), api.ErrValue},
		{"too many words, and wrong sites", api.Obj{Words: make([]uint32, 1025), Sites: []int{-1}}, api.ErrBig},
		{"too many names, and a wrong one", api.Obj{Syms: make([]api.Sym, 65)}, api.ErrBig},
		{"a wrong site, and a site's word above the end", three([]int{1, 1}), api.ErrSite},
		{"a wrong site, and a wrong name", three([]int{3}, sym("", 0)), api.ErrSite},
		{"a site's word above the end, and a wrong name", three([]int{1}, sym("", 0)), api.ErrValue},
		{"a wrong name, and a wrong place", three(nil, sym("a", -4), sym("", 0)), api.ErrName},
	}
}

func TestPutOfObjectsThatMayNotBe(t *testing.T) {
	for _, c := range wrongObjects() {
		putFails(t, c.name, c.o, c.want)
	}
}

// P11.3: objects that may not be

// hasLines tells whether there are lines of an object that may not be: what no list of lines says has none.
func hasLines(o api.Obj) bool {
	for n, site := range o.Sites {
		if site < 0 || site >= len(o.Words) || n > 0 && site <= o.Sites[n-1] {
			return false
		}
	}
	for _, s := range o.Syms {
		if s.At < 0 || s.At > math.MaxUint32 || !mayBeName(s.Name) {
			return false
		}
	}
	return true
}

func mayBeName(s string) bool {
	return regexp.MustCompile(`\A[A-Za-z][0-9A-Za-z_]{0,11}\z`).MatchString(s) && !regexp.MustCompile(`\AR[0-9]{1,2}\z`).MatchString(s)
}

func TestTakeOfObjectsThatMayNotBe(t *testing.T) {
	seen := map[api.Errno]bool{}
	for _, c := range wrongObjects() {
		if hasLines(c.o) {
			seen[c.want] = true
			takeFails(t, c.name, wantPut(c.o), api.ErrForm)
		}
	}
	for _, e := range []api.Errno{api.ErrBig, api.ErrValue, api.ErrName} {
		if !seen[e] {
			t.Errorf("no lines of an object whose error is %d", e)
		}
	}
	for _, lines := range []string{
		"addr 00000005\n", "addr 00000008\n", "addr 00010000\n", "addr 00010004\n", "addr 80000000\n", "addr FFFFFFFC\n", "addr FFFFFFFF\n",
		"word 00000000\naddr 00000009\n", "addr 00000009\nword 00000000\n", "addr 00000008\naddr 0000000C\n",
		"name a 00000001\n", "name a 00000004\n", "name a 80000000\n", "name a FFFFFFFC\n", "name a FFFFFFFF\n",
		"word 00000000\nname a 00000002\n", "word 00000000\nname a 00000008\n", "word 00000000\nname a 00000000\nname b 00000003\n", "word 00000000\nname a 00000003\nname b 00000000\n",
		"name b 00000000\nname a 00000000\n", "name a 00000000\nname a 00000000\n", "name a 00000000\nname A 00000000\n", "name ab 00000000\nname a 00000000\n",
		"name a 00000000\nname c 00000000\nname b 00000000\n", "name a 00000000\nname b 00000000\nname b 00000000\n",
	} {
		takeFails(t, "an object that may not be", lines, api.ErrForm)
	}
}

func TestHowManyLines(t *testing.T) {
	for _, kind := range []string{"word", "addr"} {
		line := kind + " 00000000\n"
		if o, e := Take(strings.Repeat(line, 1024)); e != api.OK || len(o.Words) != 1024 {
			t.Errorf("1024 lines: %d words, %d", len(o.Words), e)
		}
		for _, many := range []int{1025, 1026, 1024 + 256, 4096, 65536, 65536 + 1, 65536 + 1024, 200000} {
			takeFails(t, "too many words", strings.Repeat(line, many), api.ErrForm)
			takeFails(t, "too many words, and a wrong line", strings.Repeat(line, many)+"\n", api.ErrLine)
			takeFails(t, "too many words, and no newline", strings.Repeat(line, many)+line[:13], api.ErrLine)
		}
	}
	names := func(count int) string { return wantPut(api.Obj{Syms: manyNames(count)}) }
	if o, e := Take(names(64)); e != api.OK || len(o.Syms) != 64 {
		t.Errorf("64 lines: %d names, %d", len(o.Syms), e)
	}
	for _, many := range []int{65, 66, 128, 256, 256 + 64, 65536, 65536 + 64} {
		takeFails(t, "too many names", names(many), api.ErrForm)
		takeFails(t, "too many names, and a word behind them", names(many)+"word 00000000\n", api.ErrLine)
		takeFails(t, "too many names, and no newline", names(many)+"name z 00000000", api.ErrLine)
	}
}

// P11.3: wrong lines

// wrongLines are lines that are none wherever they stand, without their newlines.
func wrongLines() []string {
	l := []string{
		"", " ", "  ", "\t", "\r", "\x00", "\x80", "\xff", "\u00e9", "\u0130", "\ufeff",
		"x", "w", "wor", "word", "addr", "name", "word ", "addr ", "name ", "name  ", "name a", "name a ", "name 00000000", "name  00000000", "00000000", " 00000000", "a 00000000",
		"Word 00000000", "WORD 00000000", "wOrd 00000000", "Addr 00000000", "ADDR 00000000", "Name a 00000000", "NAME a 00000000",
		"words 00000000", "wor 00000000", "ord 00000000", "add 00000000", "addrs 00000000", "nam a 00000000", "names a 00000000", "site 00000000", "export a 00000000", "\xffword 00000000", "\ufeffword 00000000",
		" word 00000000", " addr 00000000", " name a 00000000", "word\t00000000", "word\x0000000000", "word00000000", "addr00000000", "namea 00000000", "name\ta 00000000", "name a\t00000000", "name a00000000",
		"word 00000000 word 00000000", "word 00000000 00000000", "word word 00000000", "word a 00000000", "addr a 00000000", "word 00000000;", "word 00000000 ;", "# word 00000000",
		"name a b 00000000", "name a 00000000 00000000", "name a 00000000 b", "name 00000000 a", "name a a",
	}
	for _, digits := range noNumbers() {
		l = append(l, "word "+digits, "addr "+digits, "name a "+digits)
	}
	for _, name := range noNames() {
		l = append(l, "name "+name+" 00000000")
	}
	return l
}

// noNames are texts without a newline that are no names.
func noNames() []string {
	return []string{
		"", " ", "-", "_", "1", "\x00", "\x80", "\xff", "a-", "a\x00", "a\x80", "a\xff", "1a", "_a", "a b", " a", "a ", "a.b", "a:", "@", "[", "`", "{", "a\r", "\u00e9", "a\u00e9", "\u0141", "00000000",
		"R0", "R1", "R7", "R9", "R13", "R15", "R16", "R99", "R00", "thirteen_byte", "aaaaaaaaaaaaa", "aaaaaaaaaaa-", "-aaaaaaaaaaa", strings.Repeat("a", 256+4), strings.Repeat("a", 1<<16+1),
	}
}

func TestTakeOfWrongLines(t *testing.T) {
	for _, wrong := range wrongLines() {
		for _, lines := range [][3]string{
			{"alone", "", ""},
			{"ahead of a word", "", "word 00000007\n"},
			{"behind a word", "word 00000007\n", ""},
			{"between words", "addr 00000004\n", "word 00000007\n"},
			{"ahead of a name", "word 00000007\n", "name z 00000000\n"},
			{"behind a name", "word 00000007\nname A 00000000\n", ""},
			{"between names", "word 00000007\nname A 00000000\n", "name z 00000000\n"},
			{"ahead of another wrong one", "", "x\n"},
			{"behind another wrong one", "word 0\n", ""},
			// ErrLine is told ahead of ErrForm, whichever stands first.
			{"ahead of a site's word above the end", "", "addr FFFFFFFF\n"},
			{"behind a site's word above the end", "addr FFFFFFFF\n", ""},
			{"ahead of names that fall", "", "name b 00000000\nname a 00000000\n"},
			{"behind names that fall", "name b 00000000\nname a 00000000\n", ""},
			{"ahead of a wrong place", "", "name a 00000002\n"},
			{"behind a wrong place", "name a 00000002\n", ""},
		} {
			takeFails(t, "a wrong line "+lines[0], lines[1]+wrong+"\n"+lines[2], api.ErrLine)
			// Without its newline the empty line is nothing.
			if wrong != "" {
				takeFails(t, "a wrong line without a newline behind those that are "+lines[0], lines[1]+lines[2]+wrong, api.ErrLine)
			}
		}
	}
}

func TestTakeWithoutANewline(t *testing.T) {
	for _, c := range allCases() {
		if c.lines == "" {
			continue
		}
		takeFails(t, c.name, c.lines[:len(c.lines)-1], api.ErrLine)
		takeFails(t, c.name+", with a byte 13", c.lines[:len(c.lines)-1]+"\r", api.ErrLine)
		takeFails(t, c.name+", with bytes 13 and 10", c.lines[:len(c.lines)-1]+"\r\n", api.ErrLine)
		takeFails(t, c.name+", with a byte 0", c.lines[:len(c.lines)-1]+"\x00", api.ErrLine)
		takeFails(t, c.name+", with bytes 13 in all lines", strings.ReplaceAll(c.lines, "\n", "\r\n"), api.ErrLine)
		takeFails(t, c.name+", with bytes 13 instead", strings.ReplaceAll(c.lines, "\n", "\r"), api.ErrLine)
	}
	for _, c := range allCases() {
		for _, tail := range []string{"\n", "\n\n", "\r\n", " ", " \n", "\x00", "word", "word 00000000", "name z 00000000"} {
			takeFails(t, c.name+", with more behind it", c.lines+tail, api.ErrLine)
		}
		takeFails(t, c.name+", with a newline ahead", "\n"+c.lines, api.ErrLine)
		takeFails(t, c.name+", with a mark ahead", "\ufeff"+c.lines, api.ErrLine)
	}
	takeFails(t, "a single newline", "\n", api.ErrLine)
	takeIs(t, "the empty text", "", api.Obj{})
	if o, e := Take(""); e != api.OK || len(o.Words)+len(o.Sites)+len(o.Syms) != 0 {
		t.Errorf("Take of nothing = %s, %d", shown(o), e)
	}
}

// A beginning of lines is taken where a line ends, if what it then says may be.
func TestBeginningsOfLines(t *testing.T) {
	for _, c := range dumpCases() {
		for n := range len(c.lines) {
			o, e := wantTake(c.lines[:n])
			if got, err := Take(c.lines[:n]); err != e || !isSame(got, o) {
				t.Errorf("%s: Take(%q) = %s, %d, want %s, %d", c.name, c.lines[:n], shown(got), err, shown(o), e)
			}
		}
	}
}

func TestAWordBehindAName(t *testing.T) {
	for _, kind := range []string{"word 00000000\n", "addr 00000000\n"} {
		for _, lines := range []string{
			"name a 00000000\n" + kind,
			kind + "name a 00000000\n" + kind,
			"name a 00000000\n" + kind + "name b 00000000\n",
			"name a 00000000\nname b 00000000\n" + kind,
			"name b 00000000\nname a 00000000\n" + kind,
			"name a 00000004\n" + kind,
			"name a FFFFFFFF\n" + kind + "addr FFFFFFFF\n",
			"addr FFFFFFFF\nname a 00000000\n" + kind,
		} {
			takeFails(t, "a word behind a name", lines, api.ErrLine)
		}
		takeIs(t, "a name behind a word", "word 00000007\nname a 00000004\nname b 00000000\n", api.Obj{Words: []uint32{7}, Syms: []api.Sym{sym("a", 4), sym("b", 0)}})
	}
}

// P11.3 and P11.4 by enumeration

// wantTake is P11.3, the lines being asked for by a pattern.
func wantTake(s string) (api.Obj, api.Errno) {
	if !allLines.MatchString(s) {
		return api.Obj{}, api.ErrLine
	}
	var o api.Obj
	for line := range strings.Lines(s) {
		parts := strings.Fields(line)
		n, _ := strconv.ParseUint(parts[len(parts)-1], 16, 32)
		switch parts[0] {
		case "name":
			if !mayBeName(parts[1]) {
				return api.Obj{}, api.ErrLine
			}
			o.Syms = append(o.Syms, sym(parts[1], int(n)))
		case "addr":
			o.Sites = append(o.Sites, len(o.Words))
			o.Words = append(o.Words, uint32(n))
		case "word":
			o.Words = append(o.Words, uint32(n))
		}
	}
	if object.May(o) != api.OK {
		return api.Obj{}, api.ErrForm
	}
	return o, api.OK
}

var allLines = regexp.MustCompile(`\A((addr|word) [0-9A-F]{8}\n)*(name [0-9A-Za-z_]{1,12} [0-9A-F]{8}\n)*\z`)

// takeIsAsWanted tells which error there is, too.
func takeIsAsWanted(t *testing.T, s string) api.Errno {
	t.Helper()
	want, wantE := wantTake(s)
	o, e := Take(s)
	if e != wantE || !isSame(o, want) || e != api.OK && !isNothing(o) {
		t.Fatalf("Take(%q) = %s, %d, want %s, %d", s, shown(o), e, shown(want), wantE)
	}
	if e == api.OK {
		putIs(t, "what was taken", o, s)
	}
	return e
}

// lists are all lists of at most size of these choices.
func lists[T any](size int, choices []T) [][]T {
	all := [][]T{nil}
	for begin := 0; size > 0; size-- {
		end := len(all)
		for _, l := range all[begin:end] {
			for _, c := range choices {
				all = append(all, append(slices.Clone(l), c))
			}
		}
		begin = end
	}
	return all
}

func TestAllTextsOfFewLines(t *testing.T) {
	seen := map[api.Errno]int{}
	for _, l := range lists(5, []string{
		"word 00000004\n", "word FFFFFFFF\n", "addr 00000000\n", "addr 00000008\n", "name a 00000000\n", "name b 00000004\n", "name b 00000008\n", "name R1 00000000\n", "word 0000000a\n", "\n",
	}) {
		seen[takeIsAsWanted(t, strings.Join(l, ""))]++
	}
	for _, e := range []api.Errno{api.OK, api.ErrForm, api.ErrLine} {
		if seen[e] < 100 {
			t.Errorf("the error %d was told %d times only", e, seen[e])
		}
	}
}

func TestAllTextsOfFewPieces(t *testing.T) {
	taken := 0
	for _, l := range lists(6, []string{"word", "addr", "name", " ", "a", "R1", "00000000", "\n"}) {
		if takeIsAsWanted(t, strings.Join(l, "")) == api.OK {
			taken++
		}
	}
	if taken < 7 {
		t.Errorf("only %d were taken", taken)
	}
}

// spread tells numbers of a fixed rule, the same ones in each run.
func spread() func(below int) int {
	x := uint32(2463534242)
	return func(below int) int {
		x ^= x << 13
		x ^= x >> 17
		x ^= x << 5
		return int(x % uint32(below))
	}
}

// spreadObject is one that may be.
func spreadObject(next func(int) int) api.Obj {
	var o api.Obj
	size := next(12)
	for at := range size {
		if next(3) == 0 {
			o.Words, o.Sites = append(o.Words, uint32(next(4*size+1))), append(o.Sites, at)
		} else {
			o.Words = append(o.Words, uint32(next(65536)*65536+next(65536)))
		}
	}
	name := ""
	for range next(5) {
		name += "abcdefghijklmnopqrstuvwxyz"[next(26):][:1]
		if next(3) == 0 {
			name += "_X"
		}
		o.Syms = append(o.Syms, sym(name, 4*next(size+1)))
	}
	return o
}

func TestSpreadObjects(t *testing.T) {
	next := spread()
	for range 20000 {
		o := spreadObject(next)
		lines := wantPut(o)
		putIs(t, "a spread object", o, lines)
		takeIs(t, "a spread object", lines, o)
	}
}

// changed is s with a byte changed, taken out or put in.
func changed(s string, next func(int) int) string {
	if s == "" {
		return string([]byte{byte(next(256))})
	}
	at, c := next(len(s)), byte(next(256))
	if next(2) == 0 {
		c = "0159AFaG \n\rwordnameR_"[next(21)]
	}
	switch next(4) {
	case 0:
		return s[:at] + s[at+1:]
	case 1:
		return s[:at] + string([]byte{c}) + s[at:]
	}
	return s[:at] + string([]byte{c}) + s[at+1:]
}

// Whatever bytes are changed in lines, either they are refused, or what is taken has just these lines.
func TestChangedLines(t *testing.T) {
	next, seen := spread(), map[api.Errno]int{}
	for range 200000 {
		s := wantPut(spreadObject(next))
		for range 1 + next(2) {
			s = changed(s, next)
		}
		seen[takeIsAsWanted(t, s)]++
	}
	for _, e := range []api.Errno{api.OK, api.ErrForm, api.ErrLine} {
		if seen[e] < 1000 {
			t.Errorf("the error %d was told %d times only", e, seen[e])
		}
	}
}

// Lines in another order are taken just if they say what may be.
func TestLinesInAnotherOrder(t *testing.T) {
	next := spread()
	for range 20000 {
		l := strings.SplitAfter(wantPut(spreadObject(next)), "\n")
		for n := range l {
			other := next(len(l))
			l[n], l[other] = l[other], l[n]
		}
		takeIsAsWanted(t, strings.Join(l, ""))
	}
}

// R1: whatever bytes there are, the call ends

func TestTakeOfSpreadBytes(t *testing.T) {
	next := spread()
	for range 100000 {
		b := make([]byte, next(60))
		for n := range b {
			b[n] = byte(next(256))
		}
		takeIsAsWanted(t, string(b))
		takeIsAsWanted(t, "word 00000000\n"+string(b)+"\n")
		isNoNumber(t, "x"+string(b))
	}
	for _, c := range []string{"\x00", "\n", " ", "0", "w", "\xff", "word ", "name a ", "word\n"} {
		takeFails(t, "one thing many times", strings.Repeat(c, 1<<20), api.ErrLine)
	}
	takeFails(t, "a word of many digits", "word "+strings.Repeat("0", 1<<20)+"\n", api.ErrLine)
	takeFails(t, "a name of many letters", "name "+strings.Repeat("a", 1<<20)+" 00000000\n", api.ErrLine)
}

// R6 and R7

// wholeLists shows an object and the room behind its lists.
func wholeLists(o api.Obj) string {
	return fmt.Sprintf("%#v %#v %#v", o.Words[:cap(o.Words)], o.Sites[:cap(o.Sites)], o.Syms[:cap(o.Syms)])
}

func TestPutLeavesWhatIsHandedIn(t *testing.T) {
	var objects []api.Obj
	for _, c := range allCases() {
		objects = append(objects, c.o)
	}
	for _, c := range wrongObjects() {
		objects = append(objects, c.o)
	}
	for _, o := range objects {
		// The room behind a list is the caller's too.
		l, s, n := append(copied(o).Words, 77, 78), append(copied(o).Sites, 55, 56), append(copied(o).Syms, sym("q", 3), sym("", 1))
		in := api.Obj{Words: l[:len(o.Words)], Sites: s[:len(o.Sites)], Syms: n[:len(o.Syms)]}
		before := wholeLists(in)
		Put(in)
		if after := wholeLists(in); after != before {
			t.Errorf("Put left %.300s, want %.300s", after, before)
		}
	}
}

// spoil writes over all of l, and over the room behind it.
func spoil[T any](l []T, x T) {
	l = l[:cap(l)]
	for n := range l {
		l[n] = x
	}
}

func spoilObject(o api.Obj) {
	spoil(o.Words, 77)
	spoil(o.Sites, 77)
	spoil(o.Syms, sym("spoilt", 77))
}

func TestWhatIsToldIsTheCallersOwn(t *testing.T) {
	for _, c := range allCases() {
		in := copied(c.o)
		lines, _ := Put(in)
		spoilObject(in)
		if lines != c.lines {
			t.Errorf("%s: what Put told became %.300q", c.name, lines)
		}
		first, _ := Take(c.lines)
		second, _ := Take(c.lines)
		spoilObject(first)
		if !isSame(second, c.o) {
			t.Errorf("%s: Take shares what it tells", c.name)
		}
		takeIs(t, c.name+", once more", c.lines, c.o)
	}
}

func TestCallsDoNotHangOnEachOther(t *testing.T) {
	cases := dumpCases()
	for n, wrong := range wrongLines() {
		takeFails(t, "a wrong line", "word 00000007\n"+wrong+"\n", api.ErrLine)
		c := cases[n%len(cases)]
		takeIs(t, c.name+", behind a wrong line", c.lines, c.o)
		putIs(t, c.name+", behind a wrong line", c.o, c.lines)
	}
	for n, w := range wrongObjects() {
		putFails(t, w.name, w.o, w.want)
		putFails(t, w.name+", once more", w.o, w.want)
		c := cases[n%len(cases)]
		putIs(t, c.name+", behind "+w.name, c.o, c.lines)
		takeIs(t, c.name+", behind "+w.name, c.lines, c.o)
	}
}
