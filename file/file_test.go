package file

import (
	"fmt"
	"math"
	"slices"
	"strings"
	"testing"

	"rivet/api"
)

// shown is an object for a message, cut where it is long.
func shown(o api.Obj) string {
	return fmt.Sprintf("%.300s", fmt.Sprintf("%X %d %#v", o.Words, o.Sites, o.Syms))
}

func isSame(a, b api.Obj) bool {
	return slices.Equal(a.Words, b.Words) && slices.Equal(a.Sites, b.Sites) && slices.Equal(a.Syms, b.Syms)
}

func isNothing(o api.Obj) bool { return o.Words == nil && o.Sites == nil && o.Syms == nil }

func copied(o api.Obj) api.Obj {
	return api.Obj{Words: slices.Clone(o.Words), Sites: slices.Clone(o.Sites), Syms: slices.Clone(o.Syms)}
}

func sym(name string, at int) api.Sym { return api.Sym{Name: name, At: at} }

// words are the bytes of words by division, the lowest one first.
func words(l ...uint32) string {
	var b []byte
	for _, w := range l {
		b = append(b, byte(w%256), byte(w/256%256), byte(w/65536%256), byte(w/16777216))
	}
	return string(b)
}

// head are the bytes that a file of so many words, of that head of their chain, and of so many names begins with.
func head(count, first, names uint32) string { return "RIV5" + words(count, first, names) }

// wantPut is P10.1 of an object that may be, word by word: of each site the places below it are asked for the next lower one.
func wantPut(o api.Obj) string {
	linkBelow := func(place int) uint32 {
		for at := place - 1; at >= 0; at-- {
			if slices.Contains(o.Sites, at) {
				return uint32(at + 1)
			}
		}
		return 0
	}
	s := head(uint32(len(o.Words)), linkBelow(len(o.Words)), uint32(len(o.Syms)))
	for at, w := range o.Words {
		if slices.Contains(o.Sites, at) {
			w = w*65536 + linkBelow(at)
		}
		s += words(w)
	}
	for _, n := range o.Syms {
		s += string([]byte{byte(len(n.Name))}) + n.Name
		for len(s)%4 != 0 {
			s += "\x00"
		}
		s += words(uint32(n.At))
	}
	return s
}

func putIs(t *testing.T, name string, o api.Obj, want string) {
	t.Helper()
	if b, e := Put(o); e != api.OK || string(b) != want {
		t.Errorf("%s: Put(%s) = %.300q, %d, want %.300q", name, shown(o), b, e, want)
	}
}

func takeIs(t *testing.T, name, b string, want api.Obj) {
	t.Helper()
	if o, e := Take([]byte(b)); e != api.OK || !isSame(o, want) {
		t.Errorf("%s: Take(%.300q) = %s, %d, want %s", name, b, shown(o), e, shown(want))
	}
}

// putFails and takeFails ask for the error, and that nothing else is told beside it (R2).
func putFails(t *testing.T, name string, o api.Obj, want api.Errno) {
	t.Helper()
	if b, e := Put(o); e != want || b != nil {
		t.Errorf("%s: Put(%s) of %d words = %.100q, %d, want the error %d", name, shown(o), len(o.Words), b, e, want)
	}
}

func takeFails(t *testing.T, name, b string, want api.Errno) {
	t.Helper()
	if o, e := Take([]byte(b)); e != want || !isNothing(o) {
		t.Errorf("%s: Take(%.300q) = %s, %d, want the error %d", name, b, shown(o), e, want)
	}
}

type fileCase struct {
	name string
	o    api.Obj
	file string
}

// fileCases are objects and their files, written out.
func fileCases() []fileCase {
	return []fileCase{
		{"an object of nothing", api.Obj{}, "RIV5\x00\x00\x00\x00\x00\x00\x00\x00\x00\x00\x00\x00"},
		{"an object of empty lists", api.Obj{Words: []uint32{}, Sites: []int{}, Syms: []api.Sym{}}, "RIV5\x00\x00\x00\x00\x00\x00\x00\x00\x00\x00\x00\x00"},
		{"the chapter's example", api.Obj{Words: []uint32{7}}, "RIV5\x01\x00\x00\x00\x00\x00\x00\x00\x00\x00\x00\x00\x07\x00\x00\x00"},
		{"a word of 0", api.Obj{Words: []uint32{0}}, head(1, 0, 0) + "\x00\x00\x00\x00"},
		{"each byte told apart", api.Obj{Words: []uint32{0x04030201}}, head(1, 0, 0) + "\x01\x02\x03\x04"},
		{"words alone", api.Obj{Words: []uint32{0xFFFFFFFF, 0x80000000, 1}}, head(3, 0, 0) + "\xff\xff\xff\xff\x00\x00\x00\x80\x01\x00\x00\x00"},
		{"the word that a file begins with", api.Obj{Words: []uint32{0x35564952}}, head(1, 0, 0) + "RIV5"},
		{"words that are like links", api.Obj{Words: []uint32{0x00010001, 0x00000002, 0x00020001}}, head(3, 0, 0) + words(0x00010001, 0x00000002, 0x00020001)},
		{"one site", api.Obj{Words: []uint32{4}, Sites: []int{0}}, head(1, 1, 0) + "\x00\x00\x04\x00"},
		{"one site that leads to no word's first byte", api.Obj{Words: []uint32{3}, Sites: []int{0}}, head(1, 1, 0) + "\x00\x00\x03\x00"},
		{"one site behind words", api.Obj{Words: []uint32{5, 6, 0}, Sites: []int{2}}, head(3, 3, 0) + words(5, 6, 0)},
		{"one site ahead of words", api.Obj{Words: []uint32{12, 6, 0x10000}, Sites: []int{0}}, head(3, 1, 0) + words(0x000C0000, 6, 0x10000)},
		{"two sites", api.Obj{Words: []uint32{8, 7, 4}, Sites: []int{0, 2}}, head(3, 3, 0) + words(0x00080000, 7, 0x00040001)},
		{"all words sites", api.Obj{Words: []uint32{0, 4, 8, 16}, Sites: []int{0, 1, 2, 3}}, head(4, 4, 0) + words(0, 0x00040001, 0x00080002, 0x00100003)},
		{"a name alone", api.Obj{Syms: []api.Sym{sym("a", 0)}}, head(0, 0, 1) + "\x01a\x00\x00" + words(0)},
		{"a name of two bytes", api.Obj{Syms: []api.Sym{sym("ab", 0)}}, head(0, 0, 1) + "\x02ab\x00" + words(0)},
		{"a name of three bytes", api.Obj{Syms: []api.Sym{sym("abc", 0)}}, head(0, 0, 1) + "\x03abc" + words(0)},
		{"a name of four bytes", api.Obj{Syms: []api.Sym{sym("abcd", 0)}}, head(0, 0, 1) + "\x04abcd\x00\x00\x00" + words(0)},
		{"a name of seven bytes", api.Obj{Syms: []api.Sym{sym("abcdefg", 0)}}, head(0, 0, 1) + "\x07abcdefg" + words(0)},
		{"a name of eleven bytes", api.Obj{Syms: []api.Sym{sym("eleven_byte", 0)}}, head(0, 0, 1) + "\x0beleven_byte" + words(0)},
		{"a name of twelve bytes", api.Obj{Syms: []api.Sym{sym("twelve_bytes", 0)}}, head(0, 0, 1) + "\x0ctwelve_bytes\x00\x00\x00" + words(0)},
		{"names at the first, a middle and the last place", api.Obj{Words: []uint32{9, 9}, Syms: []api.Sym{sym("a", 0), sym("b", 4), sym("c", 8)}},
			head(2, 0, 3) + words(9, 9) + "\x01a\x00\x00" + words(0) + "\x01b\x00\x00" + words(4) + "\x01c\x00\x00" + words(8)},
		{"names of unlike lengths at places that fall", api.Obj{Words: []uint32{9, 9}, Syms: []api.Sym{sym("A", 8), sym("aaaa", 8), sym("ab", 0)}},
			head(2, 0, 3) + words(9, 9) + "\x01A\x00\x00" + words(8) + "\x04aaaa\x00\x00\x00" + words(8) + "\x02ab\x00" + words(0)},
		{"sites and names", api.Obj{Words: []uint32{8, 99, 3}, Sites: []int{0, 2}, Syms: []api.Sym{sym("B", 12), sym("twelve_bytes", 4)}},
			head(3, 3, 2) + words(0x00080000, 99, 0x00030001) + "\x01B\x00\x00" + words(12) + "\x0ctwelve_bytes\x00\x00\x00" + words(4)},
	}
}

func manyNames(count int) []api.Sym {
	var l []api.Sym
	for n := range count {
		l = append(l, sym(fmt.Sprintf("name_%07d", n), 0))
	}
	return l
}

func count(to int) []int {
	var l []int
	for n := range to {
		l = append(l, n)
	}
	return l
}

// greatCases are objects at, and just below, the bounds.
func greatCases() []fileCase {
	var l []fileCase
	add := func(name string, o api.Obj) { l = append(l, fileCase{name, o, wantPut(o)}) }
	for _, size := range []int{255, 256, 1023, 1024} {
		full := make([]uint32, size)
		for at := range full {
			full[at] = uint32(4 * (size - at))
		}
		add(fmt.Sprintf("%d words", size), api.Obj{Words: full})
		add(fmt.Sprintf("%d words that are all sites", size), api.Obj{Words: full, Sites: count(size)})
		add(fmt.Sprintf("%d words, the last one a site", size), api.Obj{Words: full, Sites: []int{size - 1}})
		for _, names := range []int{1, 63, 64} {
			syms := manyNames(names)
			for n := range syms {
				syms[n].At = 4 * (size - n)
			}
			add(fmt.Sprintf("%d words that are all sites, and %d names", size, names), api.Obj{Words: full, Sites: count(size), Syms: syms})
		}
	}
	add("63 names", api.Obj{Syms: manyNames(63)})
	add("64 names", api.Obj{Syms: manyNames(64)})
	return l
}

func allCases() []fileCase { return append(fileCases(), greatCases()...) }

// P10.1 to P10.3

func TestFilesOfObjects(t *testing.T) {
	for _, c := range allCases() {
		putIs(t, c.name, c.o, c.file)
		takeIs(t, c.name, c.file, c.o)
	}
}

func TestWhatWasPutIsTakenAndPutAgain(t *testing.T) {
	for _, c := range allCases() {
		b, e := Put(c.o)
		if e != api.OK {
			t.Fatalf("%s: Put tells %d", c.name, e)
		}
		o, e := Take(b)
		if e != api.OK || !isSame(o, c.o) {
			t.Errorf("%s: taken %s, %d", c.name, shown(o), e)
		}
		putIs(t, c.name+", taken", o, string(b))
	}
}

// As the rest of the file is behind each beginning, this asks, too, that nothing behind the length is looked at.
func TestNoBeginningOfAFileIsTaken(t *testing.T) {
	for _, c := range allCases() {
		whole := []byte(c.file)
		for n := range whole {
			if o, e := Take(whole[:n]); e != api.ErrShort || !isNothing(o) {
				t.Fatalf("%s: Take of %d bytes of %d = %s, %d", c.name, n, len(whole), shown(o), e)
			}
		}
	}
}

func TestNothingMayStandBehindAFile(t *testing.T) {
	for _, c := range allCases() {
		for _, more := range []string{"\x00", "x", "\xff", "\x00\x00", "\x00\x00\x00", "\x00\x00\x00\x00", "\x01a\x00\x00", "\x01z\x00\x00\x00\x00\x00\x00", c.file} {
			takeFails(t, c.name, c.file+more, api.ErrMore)
		}
	}
}

// P10.1: objects that may not be

func TestPutOfObjectsThatMayNotBe(t *testing.T) {
	three := func(sites []int, syms ...api.Sym) api.Obj {
		return api.Obj{Words: []uint32{8, 99, 3}, Sites: sites, Syms: syms}
	}
	for _, c := range []struct {
		name string
		o    api.Obj
		want api.Errno
	}{
		{"1025 words", api.Obj{Words: make([]uint32, 1025)}, api.ErrBig},
		{"65536 words", api.Obj{Words: make([]uint32, 65536)}, api.ErrBig},
		{"65 names", api.Obj{Syms: manyNames(65)}, api.ErrBig},
		{"256 names", api.Obj{Syms: manyNames(256)}, api.ErrBig},
		{"sites that fall", three([]int{2, 0}), api.ErrSite},
		{"sites that are alike", three([]int{0, 0}), api.ErrSite},
		{"a site below 0", three([]int{-1}), api.ErrSite},
		{"the lowest number as a site", three([]int{math.MinInt}), api.ErrSite},
		{"a site of as many as there are words", three([]int{0, 2, 3}), api.ErrSite},
		{"a site beyond 32 bits", three([]int{1 << 32}), api.ErrSite},
		{"a site of no words", api.Obj{Sites: []int{0}}, api.ErrSite},
		{"a site's word above the end", three([]int{1}), api.ErrValue},
		{"a site's word just above the end", api.Obj{Words: []uint32{5}, Sites: []int{0}}, api.ErrValue},
		{"a site's word of more than 16 bits", api.Obj{Words: []uint32{0x10004}, Sites: []int{0}}, api.ErrValue},
		{"an empty name", three(nil, sym("", 0)), api.ErrName},
		{"a register's name", three(nil, sym("R7", 0)), api.ErrName},
		{"a name of thirteen bytes", three(nil, sym("thirteen_byte", 0)), api.ErrName},
		{"a name of 257 bytes", three(nil, sym(strings.Repeat("a", 257), 0)), api.ErrName},
		{"a name with a nought behind it", three(nil, sym("a\x00", 0)), api.ErrName},
		{"names that fall", three(nil, sym("b", 0), sym("a", 0)), api.ErrName},
		{"names that are alike", three(nil, sym("a", 0), sym("a", 4)), api.ErrName},
		{"a place below 0", three(nil, sym("a", -4)), api.ErrValue},
		{"a place that is no multiple of 4", three(nil, sym("a", 2)), api.ErrValue},
		{"a place above the end", three(nil, sym("a", 16)), api.ErrValue},
		{"a place that is 0 in 32 bits", three(nil, sym("a", 1<<32)), api.ErrValue},
		{"too many words, and wrong sites", api.Obj{Words: make([]uint32, 1025), Sites: []int{-1}}, api.ErrBig},
		{"a wrong site, and a site's word above the end", three([]int{1, 1}), api.ErrSite},
		{"a site's word above the end, and a wrong name", three([]int{1}, sym("", 0)), api.ErrValue},
		{"a wrong name, and a wrong place", three(nil, sym("a", -4), sym("", 0)), api.ErrName},
	} {
		putFails(t, c.name, c.o, c.want)
	}
}

// P10.2: the head

func TestTakeOfFewBytes(t *testing.T) {
	takeIs(t, "16 bytes", head(0, 0, 0), api.Obj{})
	for n := range 16 {
		for _, whole := range []string{head(0, 0, 0), head(1025, 1, 65), strings.Repeat("\x00", 16), strings.Repeat("\xff", 16)} {
			takeFails(t, fmt.Sprintf("%d bytes", n), whole[:n], api.ErrShort)
		}
	}
	if o, e := Take(nil); e != api.ErrShort || !isNothing(o) {
		t.Errorf("Take(nil) = %s, %d", shown(o), e)
	}
}

func TestTakeOfAnotherFirstWord(t *testing.T) {
	for _, c := range fileCases() {
		for n := range 32 {
			takeFails(t, c.name, words(0x35564952^1<<n)+c.file[4:], api.ErrMagic)
		}
		for _, first := range []string{"\x00\x00\x00\x00", "\xff\xff\xff\xff", "5VIR", "RIV4", "RIV6", "riv5", "IV5R", "\x00RIV"} {
			takeFails(t, c.name, first+c.file[4:], api.ErrMagic)
		}
	}
	takeFails(t, "16 noughts", strings.Repeat("\x00", 16), api.ErrMagic)
	takeFails(t, "a byte ahead", "x"+head(0, 0, 0), api.ErrMagic)
}

// farWords are above each bound, though some would not be, cut to fewer bits, or with a sign.
var farWords = [...]uint32{2048, 65535, 65536, 65537, 65536 + 64, 1 << 24, 1 << 30, 1<<30 + 1, 1 << 31, 1<<31 + 1, 0xFFFFFFFC, 0xFFFFFFFE, 0xFFFFFFFF}

func TestTakeOfTooMany(t *testing.T) {
	for _, many := range append([]uint32{1025, 1026, 1024 + 256}, farWords[:]...) {
		takeFails(t, "too many words", head(many, 0, 0), api.ErrBig)
		takeFails(t, "too many words, and some names", head(many, 0, 1)+"\x01a\x00\x00"+words(0), api.ErrBig)
		takeFails(t, "too many words, and too many names", head(many, 0, 65), api.ErrBig)
	}
	for _, many := range append([]uint32{65, 66, 256, 256 + 64, 1024}, farWords[:]...) {
		takeFails(t, "too many names", head(0, 0, many), api.ErrBig)
		takeFails(t, "too many names, and some words", head(1, 0, many)+words(7), api.ErrBig)
	}
	takeFails(t, "1025 words that are there", wantPut(api.Obj{Words: make([]uint32, 1025)}), api.ErrBig)
	takeFails(t, "65 names that are there", wantPut(api.Obj{Syms: manyNames(65)}), api.ErrBig)
	takeFails(t, "1024 words that are not there", head(1024, 0, 0), api.ErrShort)
	takeFails(t, "64 names that are not there", head(0, 0, 64), api.ErrShort)
}

func TestTakeOfTooFewWords(t *testing.T) {
	for _, size := range []uint32{0, 1, 2, 3, 63, 255, 256, 1023} {
		there := words(make([]uint32, size)...)
		takeIs(t, "as many words as the head says", head(size, 0, 0)+there, api.Obj{Words: make([]uint32, size)})
		for _, more := range []string{"", "\x00", "\x00\x00", "\x00\x00\x00"} {
			takeFails(t, "one word more than there are", head(size+1, 0, 0)+there+more, api.ErrShort)
			takeFails(t, "one word more than there are, and a name", head(size+1, 0, 1)+there+more, api.ErrShort)
		}
		takeFails(t, "one word more than there are, ahead of another one", head(size+1, 0, 0)+there[:len(there)/2], api.ErrShort)
		takeFails(t, "one word fewer than there are", head(size, 0, 0)+there+words(0), api.ErrMore)
	}
}

// P10.2: names

// noNames are texts of at most twelve bytes that are no names, each of which fills its place.
func noNames() []string {
	return []string{"-", "_", "1", " ", "\x00", "\x80", "a-", "a\x00", "1a", "_a", "R7", "R0", "R15", "a b", "R99", "a.b", "ab\x00", "\u00e9", "aaaaaaaaaaa-", "-aaaaaaaaaaa"}
}

// named are the bytes of a text as those of a name, whether or not it is one.
func named(s string) string {
	s = string([]byte{byte(len(s))}) + s
	for len(s)%4 != 0 {
		s += "\x00"
	}
	return s
}

func TestTakeOfNamesThatAreNone(t *testing.T) {
	one, two := named("a")+words(0), named("b")+words(4)
	for _, none := range append(noNames(), "", "thirteen_byte", strings.Repeat("a", 255)) {
		takeFails(t, "the only name", head(0, 0, 1)+named(none)+words(0), api.ErrName)
		takeFails(t, "the last name", head(1, 0, 2)+words(7)+one+named(none)+words(0), api.ErrName)
		takeFails(t, "the first name", head(1, 0, 2)+words(7)+named(none)+words(0)+two, api.ErrName)
		takeFails(t, "the name in the middle", head(1, 0, 3)+words(7)+one+named(none)+words(0)+two, api.ErrName)
	}
}

func TestTakeOfNamesThatEndEarly(t *testing.T) {
	one := named("a") + words(0)
	for _, name := range []string{"b", "bb", "bbb", "bbbb", "twelve_bytes"} {
		last := named(name) + words(0)
		for n := range last {
			takeFails(t, "the only name", head(0, 0, 1)+last[:n], api.ErrShort)
			takeFails(t, "the last name", head(1, 0, 2)+words(7)+one+last[:n], api.ErrShort)
			takeFails(t, "a name with one that is missing behind it", head(0, 0, 3)+one+last[:n], api.ErrShort)
		}
		takeIs(t, "the whole name", head(0, 0, 1)+last, api.Obj{Syms: []api.Sym{sym(name, 0)}})
		takeFails(t, "one name more than there are", head(0, 0, 2)+last, api.ErrShort)
		takeFails(t, "one name fewer than there are", head(0, 0, 1)+one+last, api.ErrMore)
		takeFails(t, "no name, and there is one", head(0, 0, 0)+last, api.ErrMore)
	}
	takeFails(t, "a first byte that says more than there are", head(0, 0, 1)+"\x04a\x00\x00"+"\x00\x00\x00", api.ErrShort)
	takeFails(t, "a first byte that says 255", head(0, 0, 1)+"\xffa\x00\x00"+words(0), api.ErrShort)
}

func TestTakeOfNamesInAnotherForm(t *testing.T) {
	for _, form := range []string{
		"\x01a\x00\x01", "\x01a\x01\x00", "\x01a\xff\xff", "\x01ab\x00", "\x02ab\x01", "\x02abc", "\x04aaaa\x01\x00\x00", "\x04aaaa\x00\x80\x00", "\x04aaaa\x00\x00a",
		"\x0ctwelve_bytes\x01\x00\x00", "\x0ctwelve_bytes\x00\x01\x00", "\x0ctwelve_bytes\x00\x00\x01",
	} {
		takeFails(t, "the only name", head(0, 0, 1)+form+words(0), api.ErrForm)
		takeFails(t, "the first name", head(0, 0, 2)+form+words(0)+named("z")+words(0), api.ErrForm)
		takeFails(t, "the last name", head(0, 0, 2)+named("A")+words(0)+form+words(0), api.ErrForm)
	}
	takeFails(t, "a word of noughts behind a name's own", head(0, 0, 1)+named("a")+words(0)+words(0), api.ErrMore)
}

// P10.2: the chain

func TestTakeOfWrongChains(t *testing.T) {
	for _, size := range []uint32{0, 1, 2, 1023, 1024} {
		there := words(make([]uint32, size)...)
		for _, first := range append([]uint32{size + 1, size + 2, 4*size + 4}, farWords[:]...) {
			takeFails(t, "a head above how many words there are", head(size, first, 0)+there, api.ErrChain)
			takeFails(t, "the same with a name", head(size, first, 1)+there+named("a")+words(0), api.ErrChain)
		}
	}
	for _, c := range []struct {
		name   string
		packed []uint32
		first  uint32
	}{
		{"a site that leads to itself", []uint32{1}, 1},
		{"a site that leads to itself, at the end of a chain", []uint32{1, 1, 2}, 3},
		{"a site that leads to a higher one", []uint32{2, 0}, 1},
		{"a site that leads to the head", []uint32{0x40002, 0x40001}, 2},
		{"a site that leads beyond the words", []uint32{0, 0, 4}, 3},
		{"a site that leads as far as may be", []uint32{0, 0xFFFF, 0}, 2},
	} {
		takeFails(t, c.name, head(uint32(len(c.packed)), c.first, 0)+words(c.packed...), api.ErrChain)
	}
	takeIs(t, "wrong links of words that are no sites", head(3, 2, 0)+words(3, 0x80000, 3), api.Obj{Words: []uint32{3, 8, 3}, Sites: []int{1}})
}

// P10.2: objects that may not be

func TestTakeOfObjectsThatMayNotBe(t *testing.T) {
	for _, value := range []uint32{13, 14, 16, 255, 0x7FFF, 0x8000, 0xFFFF} {
		for at := range 3 {
			packed := []uint32{0, 0, 0}
			packed[at] = value * 65536
			takeFails(t, "a site's word above the end", head(3, uint32(at+1), 0)+words(packed...), api.ErrForm)
		}
		takeFails(t, "the word of the lower one of two sites", head(3, 3, 0)+words(value*65536, 0, 0x40001), api.ErrForm)
	}
	for value := range uint32(13) {
		takeIs(t, "a site's word", head(3, 2, 0)+words(0, value*65536, 0), api.Obj{Words: []uint32{0, value, 0}, Sites: []int{1}})
	}
	for _, names := range [][]string{{"b", "a"}, {"a", "a"}, {"a", "A"}, {"ab", "a"}, {"a", "c", "b"}, {"a", "b", "b"}} {
		file := head(1, 0, uint32(len(names))) + words(7)
		for _, n := range names {
			file += named(n) + words(0)
		}
		takeFails(t, "names that do not rise", file, api.ErrForm)
	}
	for _, at := range append([]uint32{1, 2, 3, 5, 6, 7, 9, 10, 12, 16, 1 << 30}, farWords[:]...) {
		takeFails(t, "a wrong place", head(2, 0, 1)+words(7, 7)+named("a")+words(at), api.ErrForm)
		takeFails(t, "a wrong place of the last name", head(2, 0, 2)+words(7, 7)+named("a")+words(0)+named("b")+words(at), api.ErrForm)
		takeFails(t, "a wrong place of the first name", head(2, 0, 2)+words(7, 7)+named("a")+words(at)+named("b")+words(0), api.ErrForm)
	}
	for _, at := range []uint32{0, 4, 8} {
		takeIs(t, "a place", head(2, 0, 1)+words(7, 7)+named("a")+words(at), api.Obj{Words: []uint32{7, 7}, Syms: []api.Sym{sym("a", int(at))}})
	}
}

// P10.2: which of the errors is told

// draft is a file in its parts, each of which may be wrong, and how many of its bytes there are at most.
type draft struct {
	first, count, head, names uint32
	packed                    []uint32
	syms                      []byte
	tail                      string
	end                       int
}

func (d *draft) endsAt(n int) { d.end = min(d.end, n) }

func (d *draft) file() string {
	s := words(d.first, d.count, d.head, d.names) + words(d.packed...) + string(d.syms) + d.tail
	return s[:min(len(s), d.end)]
}

// In a good draft the words begin at 16, the names at 28, each with its place behind its 4 bytes.
func goodDraft() draft {
	syms := named("b") + words(12) + named("c") + words(0)
	return draft{0x35564952, 3, 3, 2, []uint32{0x00080000, 99, 0x00030001}, []byte(syms), "", math.MaxInt}
}

type spoiling struct {
	name  string
	spoil func(*draft)
}

// fault is one thing that P10.2 names, and ways for a draft to be wrong in it.
type fault struct {
	e    api.Errno
	ways []spoiling
}

// faults are in the order of P10.2. The later one is made first, as the earlier one may take its bytes away.
func faults() []fault {
	return []fault{
		{api.ErrShort, []spoiling{
			{"no bytes", func(d *draft) { d.endsAt(0) }},
			{"15 bytes", func(d *draft) { d.endsAt(15) }},
		}},
		{api.ErrMagic, []spoiling{
			{"a first word of 0", func(d *draft) { d.first = 0 }},
			{"another first word", func(d *draft) { d.first++ }},
		}},
		{api.ErrBig, []spoiling{
			{"too many words", func(d *draft) { d.count = 1025 }},
			{"too many names", func(d *draft) { d.names = 65 }},
		}},
		{api.ErrShort, []spoiling{
			{"more words than all bytes are", func(d *draft) { d.count = 1024 }},
			{"no word", func(d *draft) { d.endsAt(16) }},
			{"an end within the words", func(d *draft) { d.endsAt(27) }},
		}},
		{api.ErrShort, []spoiling{
			{"no name", func(d *draft) { d.endsAt(28) }},
			{"an end within the first name", func(d *draft) { d.endsAt(31) }},
			{"a first name that goes on beyond the end", func(d *draft) { d.syms[0] = 100 }},
		}},
		{api.ErrName, []spoiling{{"a first name that is none", func(d *draft) { d.syms[1] = '-' }}}},
		{api.ErrForm, []spoiling{{"a first name in another form", func(d *draft) { d.syms[3] = 1 }}}},
		{api.ErrShort, []spoiling{
			{"an end behind the first name", func(d *draft) { d.endsAt(32) }},
			{"an end within the first place", func(d *draft) { d.endsAt(35) }},
		}},
		{api.ErrShort, []spoiling{
			{"an end behind the first place", func(d *draft) { d.endsAt(36) }},
			{"an end within the last name", func(d *draft) { d.endsAt(39) }},
		}},
		{api.ErrName, []spoiling{{"a last name that is none", func(d *draft) { d.syms[9] = '-' }}}},
		{api.ErrForm, []spoiling{{"a last name in another form", func(d *draft) { d.syms[10] = 1 }}}},
		{api.ErrShort, []spoiling{
			{"an end behind the last name", func(d *draft) { d.endsAt(40) }},
			{"an end within the last place", func(d *draft) { d.endsAt(43) }},
		}},
		{api.ErrMore, []spoiling{
			{"a byte behind the end", func(d *draft) { d.tail = "\x00" }},
			{"a name behind the end", func(d *draft) { d.tail = named("d") + words(0) }},
		}},
		{api.ErrChain, []spoiling{
			{"a head above how many words there are", func(d *draft) { d.head = 4 }},
			{"a head of the greatest word", func(d *draft) { d.head = 0xFFFFFFFF }},
			{"a site that leads to itself", func(d *draft) { d.packed[2] |= 3 }},
		}},
		{api.ErrForm, []spoiling{
			{"a site's word above the end", func(d *draft) { d.packed[0] = 0x000D0000 }},
			{"names that fall", func(d *draft) { d.syms[1] = 'd' }},
			{"names that are alike", func(d *draft) { d.syms[9] = 'b' }},
			{"a first place above the end", func(d *draft) { d.syms[4] = 16 }},
			{"a last place that is no multiple of 4", func(d *draft) { d.syms[12] = 2 }},
		}},
	}
}

func TestEachFaultAlone(t *testing.T) {
	d := goodDraft()
	takeIs(t, "none", d.file(), api.Obj{Words: []uint32{8, 99, 3}, Sites: []int{0, 2}, Syms: []api.Sym{sym("b", 12), sym("c", 0)}})
	for _, f := range faults() {
		for _, w := range f.ways {
			d := goodDraft()
			w.spoil(&d)
			takeFails(t, w.name, d.file(), f.e)
		}
	}
}

func TestTheEarlierOfTwoFaults(t *testing.T) {
	all := faults()
	for n, first := range all {
		for _, second := range all[n+1:] {
			for _, one := range first.ways {
				for _, two := range second.ways {
					d := goodDraft()
					two.spoil(&d)
					one.spoil(&d)
					takeFails(t, one.name+", and "+two.name, d.file(), first.e)
				}
			}
		}
	}
}

// Each set of faults is tried, with one way of each fault, which goes round from set to set.
func TestTheFirstOfAnyFaults(t *testing.T) {
	all := faults()
	for set := 1; set < 1<<len(all); set++ {
		d, name, want := goodDraft(), "all of", api.OK
		for n := len(all) - 1; n >= 0; n-- {
			if set>>n&1 == 0 {
				continue
			}
			w := all[n].ways[(set>>1^n)%len(all[n].ways)]
			w.spoil(&d)
			name, want = name+"; "+w.name, all[n].e
		}
		takeFails(t, name, d.file(), want)
	}
}

// P10.3 by enumeration: small objects, and small files

// lists are all lists of at most size of these choices.
func lists[T any](size int, choices []T) [][]T {
	all := [][]T{nil}
	for begin := 0; size > 0; size-- {
		end := len(all)
		for _, l := range all[begin:end] {
			for _, c := range choices {
				all = append(all, append(slices.Clone(l), c))
			}
		}
		begin = end
	}
	return all
}

// smallObjects are those that may be, of these words, and of names a and b, by their files.
func smallObjects(t *testing.T, choices []uint32) map[string]api.Obj {
	all := map[string]api.Obj{}
	for _, l := range lists(3, choices) {
		end := uint32(4 * len(l))
		var names [][]api.Sym
		for at := 0; at <= int(end); at += 4 {
			names = append(names, []api.Sym{sym("a", at)})
			for other := 0; other <= int(end); other += 4 {
				names = append(names, []api.Sym{sym("a", at), sym("b", other)})
			}
			names = append(names, []api.Sym{sym("b", at)})
		}
		for set := range 1 << len(l) {
			var sites []int
			for at := range l {
				if set>>at&1 == 1 {
					sites = append(sites, at)
				}
			}
			if slices.ContainsFunc(sites, func(at int) bool { return l[at] > end }) {
				continue
			}
			for _, syms := range append(names, nil) {
				o := api.Obj{Words: l, Sites: sites, Syms: syms}
				file := wantPut(o)
				if other, ok := all[file]; ok {
					t.Fatalf("%s and %s have one file", shown(o), shown(other))
				}
				all[file] = o
			}
		}
	}
	return all
}

// As each small file whose words are among the choices would be of an object whose words are among them, too, or of a site's, a file is taken just if it is there.
func TestSmallFiles(t *testing.T) {
	nameA, nameB := uint32('a'*256+1), uint32('b'*256+1)
	inFiles := []uint32{0, 1, 2, 4, 8, 0x00010000, 0x00040000, 0x00040001, 0x00080001, 0x00080002, 0x00050000, nameA, nameB, nameA + 1<<24}
	inObjects := slices.Clone(inFiles)
	for _, w := range inFiles {
		if !slices.Contains(inObjects, w>>16) {
			inObjects = append(inObjects, w>>16)
		}
	}
	objects, taken := smallObjects(t, inObjects), 0
	for file, o := range objects {
		putIs(t, "a small object", o, file)
		takeIs(t, "a small object", file, o)
	}
	for _, l := range lists(4, inFiles) {
		body := words(l...)
		for count := range min(uint32(len(l))+2, 4) {
			for first := range count + 2 {
				for names := range uint32(3) {
					file := head(count, first, names) + body
					o, e := Take([]byte(file))
					want, ok := objects[file]
					if ok != (e == api.OK) || !isSame(o, want) {
						t.Fatalf("Take(%q) = %s, %d, want %s, %v", file, shown(o), e, shown(want), ok)
					}
					if ok {
						taken++
					}
				}
			}
		}
	}
	if taken < 1000 {
		t.Errorf("only %d were taken", taken)
	}
}

// spread tells numbers of a fixed rule, the same ones in each run.
func spread() func(below int) int {
	x := uint32(2463534242)
	return func(below int) int {
		x ^= x << 13
		x ^= x >> 17
		x ^= x << 5
		return int(x % uint32(below))
	}
}

// spreadObject is one that may be.
func spreadObject(next func(int) int) api.Obj {
	var o api.Obj
	size := next(12)
	for at := range size {
		if next(3) == 0 {
			o.Words, o.Sites = append(o.Words, uint32(next(4*size+1))), append(o.Sites, at)
		} else {
			o.Words = append(o.Words, uint32(next(65536)*65536+next(65536)))
		}
	}
	name := ""
	for range next(5) {
		name += "abcdefghijklmnopqrstuvwxyz"[next(26):][:1]
		if next(3) == 0 {
			name += "_X"
		}
		o.Syms = append(o.Syms, sym(name, 4*next(size+1)))
	}
	return o
}

func TestSpreadObjects(t *testing.T) {
	next := spread()
	for range 20000 {
		o := spreadObject(next)
		file := wantPut(o)
		putIs(t, "a spread object", o, file)
		takeIs(t, "a spread object", file, o)
	}
}

// Whatever bytes are changed in a file, either it is refused, or what is taken has just these bytes.
func TestChangedFiles(t *testing.T) {
	next, seen := spread(), map[api.Errno]int{}
	for range 300000 {
		b := []byte(wantPut(spreadObject(next)))
		for range 1 + next(2) {
			switch at := next(len(b)); next(4) {
			case 0:
				b[at] = byte(next(256))
			case 1:
				b[at] ^= 1 << next(8)
			case 2:
				b[at] = byte(next(4))
			case 3:
				b[at/4*4] = byte(next(20))
			}
		}
		o, e := Take(b)
		seen[e]++
		if e != api.OK {
			takeFails(t, "a changed file", string(b), e)
			continue
		}
		putIs(t, "what was taken of a changed file", o, string(b))
		if wantPut(o) != string(b) {
			t.Fatalf("Take(%q) = %s, which is another file", b, shown(o))
		}
	}
	for _, e := range []api.Errno{api.OK, api.ErrBig, api.ErrShort, api.ErrMore, api.ErrMagic, api.ErrForm, api.ErrName, api.ErrChain} {
		if seen[e] < 100 {
			t.Errorf("the error %d was told %d times only", e, seen[e])
		}
	}
}

// R1: whatever bytes there are, the call ends

func TestTakeOfSpreadBytes(t *testing.T) {
	next := spread()
	for range 100000 {
		b := make([]byte, next(80))
		for n := range b {
			b[n] = byte(next(256))
		}
		if next(4) != 0 {
			b = append([]byte(head(uint32(next(4)), uint32(next(4)), uint32(next(3)))), b...)
		}
		if o, e := Take(b); e == api.OK {
			putIs(t, "spread bytes", o, string(b))
		} else {
			takeFails(t, "spread bytes", string(b), e)
		}
	}
}

// R6 and R7

// wholeLists shows an object and the room behind its lists.
func wholeLists(o api.Obj) string {
	return fmt.Sprintf("%#v %#v %#v", o.Words[:cap(o.Words)], o.Sites[:cap(o.Sites)], o.Syms[:cap(o.Syms)])
}

func TestPutLeavesWhatIsHandedIn(t *testing.T) {
	objects := []api.Obj{
		{Words: []uint32{8, 99, 3}, Sites: []int{2, 0}},
		{Words: []uint32{99}, Sites: []int{0}},
		{Syms: []api.Sym{sym("b", 0), sym("a", 0)}},
	}
	for _, c := range allCases() {
		objects = append(objects, c.o)
	}
	for _, o := range objects {
		// The room behind a list is the caller's too.
		l, s, n := append(copied(o).Words, 77, 78), append(copied(o).Sites, 55, 56), append(copied(o).Syms, sym("q", 3), sym("", 1))
		in := api.Obj{Words: l[:len(o.Words)], Sites: s[:len(o.Sites)], Syms: n[:len(o.Syms)]}
		before := wholeLists(in)
		Put(in)
		if after := wholeLists(in); after != before {
			t.Errorf("Put left %s, want %s", after, before)
		}
	}
}

func TestTakeLeavesWhatIsHandedIn(t *testing.T) {
	files := []string{"", "RIV5", head(1, 9, 0) + words(7), head(0, 0, 1) + named("-") + words(0), head(1, 1, 0) + words(0xFFFF0000)}
	for _, c := range allCases() {
		files = append(files, c.file, c.file+"\x00", c.file[:len(c.file)-1])
	}
	for _, file := range files {
		whole := []byte(file + "behind it")
		Take(whole[:len(file)])
		if string(whole) != file+"behind it" {
			t.Errorf("Take left %.300q, want %.300q", whole, file)
		}
	}
}

// spoil writes over all of l, and over the room behind it.
func spoil[T any](l []T, x T) {
	l = l[:cap(l)]
	for n := range l {
		l[n] = x
	}
}

func spoilObject(o api.Obj) {
	spoil(o.Words, 77)
	spoil(o.Sites, 77)
	spoil(o.Syms, sym("spoilt", 77))
}

func TestWhatIsToldIsTheCallersOwn(t *testing.T) {
	for _, c := range allCases() {
		in := copied(c.o)
		one, _ := Put(in)
		two, _ := Put(in)
		spoil(one, 77)
		if !isSame(in, c.o) || string(two) != c.file {
			t.Errorf("%s: Put shares what it tells", c.name)
		}
		spoilObject(in)
		if string(two) != c.file {
			t.Errorf("%s: what Put told became %.300q", c.name, two)
		}
		b := []byte(c.file)
		first, _ := Take(b)
		second, _ := Take(b)
		spoilObject(first)
		if string(b) != c.file || !isSame(second, c.o) {
			t.Errorf("%s: Take shares what it tells", c.name)
		}
		spoil(b, 'x')
		if !isSame(second, c.o) {
			t.Errorf("%s: what Take told became %s", c.name, shown(second))
		}
	}
}

func TestCallsDoNotHangOnEachOther(t *testing.T) {
	for _, f := range faults() {
		for _, w := range f.ways {
			d := goodDraft()
			w.spoil(&d)
			takeFails(t, w.name, d.file(), f.e)
			takeFails(t, w.name+", once more", d.file(), f.e)
			for _, c := range fileCases() {
				takeIs(t, c.name+", behind "+w.name, c.file, c.o)
				putIs(t, c.name+", behind "+w.name, c.o, c.file)
			}
		}
	}
}
