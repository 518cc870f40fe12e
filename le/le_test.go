package le

import (
	"bytes"
	"fmt"
	"math"
	"slices"
	"strings"
	"testing"

	"rivet/api"
)

const (
	capitals = "ABCDEFGHIJKLMNOPQRSTUVWXYZ"
	smalls   = "abcdefghijklmnopqrstuvwxyz"
	digits   = "0123456789"
	firsts   = capitals + smalls
	laters   = firsts + digits + "_"
)

// spread tells numbers of a fixed rule, the same ones in each run.
func spread() func() uint32 {
	x := uint32(2463534242)
	return func() uint32 {
		x ^= x << 13
		x ^= x >> 17
		x ^= x << 5
		return x
	}
}

func spreadWords(count int) []uint32 {
	next, l := spread(), make([]uint32, count)
	for n := range l {
		l[n] = next()
	}
	return l
}

// bytesOf tells the bytes of a word by division: the lowest one first.
func bytesOf(w uint32) []byte {
	return []byte{byte(w % 256), byte(w / 256 % 256), byte(w / 65536 % 256), byte(w / 16777216)}
}

func bytesOfAll(l []uint32) []byte {
	var b []byte
	for _, w := range l {
		b = append(b, bytesOf(w)...)
	}
	return b
}

// registers are all texts of R and one or two digits, written out by counting.
func registers() map[string]bool {
	all := map[string]bool{}
	for n := range 10 {
		all[fmt.Sprintf("R%d", n)] = true
	}
	for n := range 100 {
		all[fmt.Sprintf("R%02d", n)] = true
	}
	return all
}

// wantName is P7.2 by lists of bytes that are written out.
func wantName(s string, registers map[string]bool) bool {
	if len(s) == 0 || len(s) > 12 || registers[s] || strings.IndexByte(firsts, s[0]) < 0 {
		return false
	}
	for n := 1; n < len(s); n++ {
		if strings.IndexByte(laters, s[n]) < 0 {
			return false
		}
	}
	return true
}

// wantBytes is the form of P7.3, of any text: noughts are set behind it one by one.
func wantBytes(s string) []byte {
	b := append([]byte{byte(len(s))}, s...)
	for len(b)%4 != 0 {
		b = append(b, 0)
	}
	return b
}

// P7.1

func TestPutOfNamedWords(t *testing.T) {
	for _, c := range []struct {
		name string
		l    []uint32
		want string
	}{
		{"nil", nil, ""},
		{"no word", []uint32{}, ""},
		{"nought", []uint32{0}, "\x00\x00\x00\x00"},
		{"each byte told apart", []uint32{0x04030201}, "\x01\x02\x03\x04"},
		{"the lowest byte alone", []uint32{0x000000FF}, "\xff\x00\x00\x00"},
		{"the second byte alone", []uint32{0x0000FF00}, "\x00\xff\x00\x00"},
		{"the third byte alone", []uint32{0x00FF0000}, "\x00\x00\xff\x00"},
		{"the highest byte alone", []uint32{0xFF000000}, "\x00\x00\x00\xff"},
		{"the lowest bit", []uint32{1}, "\x01\x00\x00\x00"},
		{"the highest bit", []uint32{0x80000000}, "\x00\x00\x00\x80"},
		{"the greatest one", []uint32{0xFFFFFFFF}, "\xff\xff\xff\xff"},
		{"what a file begins with", []uint32{0x35564952}, "RIV5"},
		{"two words", []uint32{0x04030201, 0xFF}, "\x01\x02\x03\x04\xff\x00\x00\x00"},
		{"three words", []uint32{0x80000000, 0, 0x44332211}, "\x00\x00\x00\x80\x00\x00\x00\x00\x11\x22\x33\x44"},
	} {
		if got := Put(c.l); string(got) != c.want {
			t.Errorf("%s: Put(%X) = %X, want %X", c.name, c.l, got, c.want)
		}
	}
}

func TestTakeOfNamedBytes(t *testing.T) {
	for _, c := range []struct {
		name string
		b    string
		n    int
		want []uint32
	}{
		{"no word of no byte", "", 0, nil},
		{"no word of some bytes", "\x01\x02\x03\x04\x05", 0, nil},
		{"no word of less than one", "\x01\x02\x03", 0, nil},
		{"each byte told apart", "\x01\x02\x03\x04", 1, []uint32{0x04030201}},
		{"the lowest byte alone", "\xff\x00\x00\x00", 1, []uint32{0x000000FF}},
		{"the second byte alone", "\x00\xff\x00\x00", 1, []uint32{0x0000FF00}},
		{"the third byte alone", "\x00\x00\xff\x00", 1, []uint32{0x00FF0000}},
		{"the highest byte alone", "\x00\x00\x00\xff", 1, []uint32{0xFF000000}},
		{"what a file begins with", "RIV5", 1, []uint32{0x35564952}},
		{"as many as there are", "\x01\x02\x03\x04\x05\x06\x07\x08", 2, []uint32{0x04030201, 0x08070605}},
		{"fewer than there are", "\x01\x02\x03\x04\x05\x06\x07\x08", 1, []uint32{0x04030201}},
		{"one byte more", "\x01\x02\x03\x04\x05\x06\x07\x08\x09", 2, []uint32{0x04030201, 0x08070605}},
		{"two bytes more", "\x01\x02\x03\x04\x05\x06", 1, []uint32{0x04030201}},
		{"three bytes more", "\x01\x02\x03\x04\x05\x06\x07", 1, []uint32{0x04030201}},
	} {
		if got, e := Take([]byte(c.b), c.n); e != api.OK || !slices.Equal(got, c.want) {
			t.Errorf("%s: Take(%X, %d) = %X, %d, want %X", c.name, c.b, c.n, got, e, c.want)
		}
	}
	if got, e := Take(nil, 0); e != api.OK || len(got) != 0 {
		t.Errorf("Take(nil, 0) = %X, %d", got, e)
	}
}

func shortOf(t *testing.T, b []byte, n int) {
	t.Helper()
	if l, e := Take(b, n); e != api.ErrShort || l != nil {
		t.Errorf("Take of %d bytes, %d words = %X, %d", len(b), n, l, e)
	}
}

func TestTakeAroundEachLength(t *testing.T) {
	b := bytesOfAll(spreadWords(10))
	for size := range len(b) + 1 {
		for n := -3; n <= 13; n++ {
			part := b[:size:size]
			if n < 0 || size < 4*n {
				shortOf(t, part, n)
			} else if l, e := Take(part, n); e != api.OK || !slices.Equal(l, spreadWords(10)[:n]) {
				t.Errorf("Take of %d bytes, %d words = %X, %d", size, n, l, e)
			}
		}
	}
}

func TestTakeOfTooFewBytes(t *testing.T) {
	for _, size := range []int{0, 1, 2, 3} {
		shortOf(t, make([]byte, size), 1)
	}
	for _, size := range []int{5, 6, 7} {
		shortOf(t, make([]byte, size), 2)
	}
	shortOf(t, nil, 1)
}

// What is beyond a list's length is not the list's, whatever its capacity.
func TestTakeStaysWithinTheLength(t *testing.T) {
	b := make([]byte, 64)
	shortOf(t, b[:7], 2)
	shortOf(t, b[:0], 1)
}

func TestTakeOfNumbersFarBeyond(t *testing.T) {
	for _, b := range [][]byte{nil, {}, make([]byte, 3), make([]byte, 4), make([]byte, 8), make([]byte, 4096)} {
		for _, n := range []int{
			-1, -2, -4, -1024, 1025, 4096, 1 << 20,
			1 << 29, 1 << 30, 1<<30 + 1, 1 << 31, 1 << 32, 1<<32 + 1, -1 << 30, -1 << 32, 1 - 1<<32,
			1<<61 - 1, 1 << 61, 1<<61 + 1, 1<<62 - 1, 1 << 62, 1<<62 + 1, 1<<62 + 2, 1<<62 + 1<<61,
			-1 << 61, -1 << 62, 1 - 1<<62, 2 - 1<<62,
			math.MaxInt, math.MaxInt - 1, math.MinInt, math.MinInt + 1, math.MinInt + 2,
		} {
			shortOf(t, b, n)
		}
	}
}

func TestWordsThereAndBack(t *testing.T) {
	for _, count := range []int{0, 1, 2, 3, 64, 1023, 1024, 1025, 5000} {
		l := spreadWords(count)
		b := Put(l)
		if !bytes.Equal(b, bytesOfAll(l)) {
			t.Errorf("%d words put are %X", count, b)
		}
		if got, e := Take(b, count); e != api.OK || !slices.Equal(got, l) {
			t.Errorf("%d words put and taken are %X, %d", count, got, e)
		}
	}
}

// P7.2

func TestNameOfNamedTexts(t *testing.T) {
	for _, c := range []struct {
		s    string
		want bool
	}{
		{"", false},
		{"a", true}, {"z", true}, {"A", true}, {"Z", true}, {"m", true}, {"R", true}, {"r", true},
		{"0", false}, {"9", false}, {"_", false}, {" ", false}, {"\x00", false},
		{"ab", true}, {"a1", true}, {"a_", true}, {"a__9", true}, {"Z9_", true}, {"loop_2B", true}, {"a_________9", true},
		{"_a", false}, {"9a", false}, {"1", false}, {"__", false},
		{"a b", false}, {"a-b", false}, {" a", false}, {"a ", false}, {"a\x00", false}, {"a\n", false}, {".a", false}, {"a.b", false},
		{"abcdefghijkl", true}, {"ABCDEFGHIJKL", true}, {"a23456789012", true}, {"a___________", true},
		{"abcdefghijk-", false}, {"abcdefghijk\x80", false},
		{"abcdefghijklm", false}, {"a234567890123", false}, {"R234567890123", false},
		{"abcdefghijkl\x00", false}, {strings.Repeat("a", 255), false}, {strings.Repeat("a", 256), false}, {strings.Repeat("a", 257), false}, {strings.Repeat("a", 1<<16+1), false},
		{"R0", false}, {"R1", false}, {"R9", false}, {"R00", false}, {"R01", false}, {"R10", false}, {"R15", false}, {"R16", false}, {"R99", false},
		{"R000", true}, {"R100", true}, {"R015", true}, {"R1234567890", true}, {"R12345678901", true},
		{"Ra", true}, {"Rx", true}, {"RR", true}, {"R_", true}, {"R_1", true}, {"R1_", true}, {"R1a", true}, {"Ra1", true}, {"R12a", true}, {"R1_2", true}, {"RR1", true}, {"R__", true}, {"Rab", true},
		{"R/", false}, {"R:", false}, {"R1/", false}, {"R1:", false}, {"R/1", false}, {"R-1", false}, {"R 1", false}, {"R1 ", false},
		{"r0", true}, {"r1", true}, {"r15", true}, {"r99", true}, {"r100", true}, {"Q1", true}, {"S1", true}, {"Q15", true}, {"S15", true},
		{"H", true}, {"MOV", true}, {"word", true},
		{"a\xc3", false}, {"\xc3a", false}, {"\xc3\xa9", false}, {"a\xc3\xa9", false}, {"\xff", false}, {"a\x80", false}, {"a\xff", false}, {"R\xb1", false}, {"\xd2", false}, {"\xe1", false}, {"a\xe1", false},
	} {
		if got := Name(c.s); got != c.want {
			t.Errorf("Name(%q) = %v, want %v", c.s, got, c.want)
		}
	}
}

// The bytes just beside the letters, the digits and the underscore are written out, so that this does not hang on the lists above.
func TestBytesBesideThoseOfNames(t *testing.T) {
	for _, c := range []struct {
		c            byte
		first, later bool
	}{
		{'/', false, false}, {'0', false, true}, {'9', false, true}, {':', false, false},
		{'@', false, false}, {'A', true, true}, {'Z', true, true}, {'[', false, false},
		{'^', false, false}, {'_', false, true}, {'`', false, false},
		{'a', true, true}, {'z', true, true}, {'{', false, false},
		{0, false, false}, {127, false, false}, {128, false, false}, {255, false, false},
		{'0' + 128, false, false}, {'A' + 128, false, false}, {'_' + 128, false, false}, {'a' + 128, false, false},
	} {
		one := string([]byte{c.c})
		for _, s := range []string{one, one + "b", one + "_9", one + "bcdefghijkl"} {
			if got := Name(s); got != c.first {
				t.Errorf("Name(%q) = %v, want %v", s, got, c.first)
			}
		}
		for _, s := range []string{"a" + one, "a" + one + "b", "ab" + one, "abcdefghijk" + one, "a" + one + "cdefghijkl"} {
			if got := Name(s); got != c.later {
				t.Errorf("Name(%q) = %v, want %v", s, got, c.later)
			}
		}
	}
}

func TestNameOfEachShortText(t *testing.T) {
	known := registers()
	hold := func(s string) {
		if got, want := Name(s), wantName(s, known); got != want {
			t.Fatalf("Name(%q) = %v, want %v", s, got, want)
		}
	}
	for one := range 256 {
		hold(string([]byte{byte(one)}))
		for two := range 256 {
			hold(string([]byte{byte(one), byte(two)}))
			hold(string([]byte{'R', byte(one), byte(two)}))
			hold(string([]byte{'r', byte(one), byte(two)}))
			hold(string([]byte{'R', '1', byte(one), byte(two)}))
		}
	}
}

func TestNameOfEachByteAtEachPlace(t *testing.T) {
	known := registers()
	for size := 1; size <= 14; size++ {
		for at := range size {
			for c := range 256 {
				s := []byte("RrZz09_aAmM5bB")[:size]
				s[at] = byte(c)
				if got, want := Name(string(s)), wantName(string(s), known); got != want {
					t.Fatalf("Name(%q) = %v, want %v", s, got, want)
				}
			}
		}
	}
}

// P7.3

// namesOfEachLength are of one byte to twelve: letters, digits and underscores, and those near registers.
func namesOfEachLength() []string {
	all := []string{"R", "r1", "R100", "R_", "R1_", "Z9_", "H"}
	for size := 1; size <= 12; size++ {
		all = append(all, firsts[20:20+size], "Z_9876543210"[:size], "R_1234567890"[:size], "a___________"[:size])
	}
	return all
}

func TestPutNameOfNamedTexts(t *testing.T) {
	for _, c := range []struct{ s, want string }{
		{"ab", "\x02\x61\x62\x00"},
		{"a", "\x01a\x00\x00"},
		{"R", "\x01R\x00\x00"},
		{"Z9_", "\x03Z9_"},
		{"abcd", "\x04abcd\x00\x00\x00"},
		{"abcde", "\x05abcde\x00\x00"},
		{"abcdef", "\x06abcdef\x00"},
		{"abcdefg", "\x07abcdefg"},
		{"abcdefgh", "\x08abcdefgh\x00\x00\x00"},
		{"abcdefghi", "\x09abcdefghi\x00\x00"},
		{"abcdefghij", "\x0aabcdefghij\x00"},
		{"abcdefghijk", "\x0babcdefghijk"},
		{"abcdefghijkl", "\x0cabcdefghijkl\x00\x00\x00"},
	} {
		if got, e := PutName(c.s); e != api.OK || string(got) != c.want {
			t.Errorf("PutName(%q) = %q, %d, want %q", c.s, got, e, c.want)
		}
		if s, used, e := TakeName([]byte(c.want)); e != api.OK || s != c.s || used != len(c.want) {
			t.Errorf("TakeName(%q) = %q, %d, %d, want %q", c.want, s, used, e, c.s)
		}
	}
}

func TestPutNameOfNoNames(t *testing.T) {
	for _, s := range []string{
		"", "_a", "9a", "a-b", "a b", "R1", "R15", "R99", "R00", "\x00", "a\x00", "a\x80", "\xc3\xa9",
		"abcdefghijklm", strings.Repeat("a", 255), strings.Repeat("a", 256), strings.Repeat("a", 257), strings.Repeat("a", 268),
	} {
		if b, e := PutName(s); e != api.ErrName || b != nil {
			t.Errorf("PutName(%q) = %q, %d", s, b, e)
		}
	}
}

func TestPutNameJustOfNames(t *testing.T) {
	known := registers()
	for one := range 256 {
		for two := range 256 {
			s := string([]byte{byte(one), byte(two)})
			b, e := PutName(s)
			if wantName(s, known) {
				if e != api.OK || !bytes.Equal(b, wantBytes(s)) {
					t.Fatalf("PutName(%q) = %q, %d", s, b, e)
				}
			} else if e != api.ErrName || b != nil {
				t.Fatalf("PutName(%q) = %q, %d", s, b, e)
			}
		}
	}
}

func TestNamesThereAndBack(t *testing.T) {
	for _, s := range namesOfEachLength() {
		b, e := PutName(s)
		if e != api.OK || !bytes.Equal(b, wantBytes(s)) {
			t.Errorf("PutName(%q) = %q, %d, want %q", s, b, e, wantBytes(s))
		}
		for _, behind := range []string{"", "\x00", "\x01", "\x00\x00\x00\x00", "\x07\xff", "abc", "\x02ab\x00", strings.Repeat("\xff", 300)} {
			got, used, e := TakeName(slices.Concat(b, []byte(behind)))
			if got != s || used != len(b) || e != api.OK {
				t.Errorf("TakeName of %q, and %q behind it, = %q, %d, %d", b, behind, got, used, e)
			}
		}
	}
}

func TestNamesInARow(t *testing.T) {
	want := []string{"a", "ab", "abc", "abcd", "R", "R100", "abcdefghijkl", "z_9"}
	var row []byte
	for _, s := range want {
		row = append(row, wantBytes(s)...)
	}
	var got []string
	for len(row) > 0 {
		s, used, e := TakeName(row)
		if e != api.OK || used < 4 {
			t.Fatalf("TakeName(%q) = %q, %d, %d", row, s, used, e)
		}
		got, row = append(got, s), row[used:]
	}
	if !slices.Equal(got, want) {
		t.Errorf("the names in a row are %q, want %q", got, want)
	}
}

func TestTakeNameOfWrongBytes(t *testing.T) {
	for _, c := range []struct {
		name string
		b    string
		want api.Errno
	}{
		{"no byte", "", api.ErrShort},
		{"a first byte alone", "\x01", api.ErrShort},
		{"a first byte of 0 alone", "\x00", api.ErrShort},
		{"a first byte of 0, and two noughts", "\x00\x00\x00", api.ErrShort},
		{"the greatest first byte alone", "\xff", api.ErrShort},
		{"a name cut off", "\x05abc", api.ErrShort},
		{"the one nought is not there", "\x02ab", api.ErrShort},
		{"two noughts are not there", "\x01a", api.ErrShort},
		{"one of two noughts is not there", "\x01a\x00", api.ErrShort},
		{"three noughts are not there", "\x04abcd", api.ErrShort},
		{"two of three noughts are not there", "\x04abcd\x00", api.ErrShort},
		{"one of three noughts is not there", "\x04abcd\x00\x00", api.ErrShort},
		{"the last byte of a name without noughts is not there", "\x03ab", api.ErrShort},
		{"thirteen bytes, cut off", "\x0dabcdefghijklm\x00", api.ErrShort},
		{"255 bytes, one of them not there", "\xff" + strings.Repeat("a", 254), api.ErrShort},
		{"252 bytes, a nought not there", "\xfc" + strings.Repeat("a", 252) + "\x00\x00", api.ErrShort},

		{"a first byte of 0", "\x00\x00\x00\x00", api.ErrName},
		{"a first byte of 0, and more", "\x00\x00\x00\x00\x02ab\x00", api.ErrName},
		{"thirteen bytes", "\x0dabcdefghijklm\x00\x00", api.ErrName},
		{"fifteen bytes", "\x0fabcdefghijklmno", api.ErrName},
		{"127 bytes", "\x7f" + strings.Repeat("a", 127), api.ErrName},
		{"128 bytes", "\x80" + strings.Repeat("a", 128) + "\x00\x00\x00", api.ErrName},
		{"255 bytes", "\xff" + strings.Repeat("a", 255), api.ErrName},
		{"a register", "\x02R1\x00", api.ErrName},
		{"a register of two digits", "\x03R15", api.ErrName},
		{"a sign", "\x02a-\x00", api.ErrName},
		{"a digit first", "\x021a\x00", api.ErrName},
		{"an underscore first", "\x02_a\x00", api.ErrName},
		{"a nought in the name", "\x02a\x00\x00", api.ErrName},
		{"a nought as the name", "\x01\x00\x00\x00", api.ErrName},
		{"a byte above 127", "\x02a\xc3\x00", api.ErrName},

		{"the one nought is none", "\x02ab\x01", api.ErrForm},
		{"the one nought is the greatest byte", "\x02ab\xff", api.ErrForm},
		{"the one nought is a byte with the highest bit", "\x02ab\x80", api.ErrForm},
		{"the one nought is a letter", "\x02abc", api.ErrForm},
		{"the first of two noughts is none", "\x01a\x01\x00", api.ErrForm},
		{"the last of two noughts is none", "\x01a\x00\x01", api.ErrForm},
		{"the first of three noughts is none", "\x04abcd\x01\x00\x00", api.ErrForm},
		{"the second of three noughts is none", "\x04abcd\x00\x01\x00", api.ErrForm},
		{"the last of three noughts is none", "\x04abcd\x00\x00\x01", api.ErrForm},
		{"the last of twelve's noughts is none", "\x0cabcdefghijkl\x00\x00\x01", api.ErrForm},
		{"two that cancel out", "\x01a\x80\x80", api.ErrForm},
		{"none, and bytes behind it", "\x02ab\x01\x00\x00\x00\x00", api.ErrForm},

		{"short ahead of no name", "\x02R1", api.ErrShort},
		{"short ahead of a sign", "\x02a-", api.ErrShort},
		{"short ahead of too many", "\x0da", api.ErrShort},
		{"short ahead of a first byte of 0", "\x00\x00", api.ErrShort},
		{"short ahead of the form", "\x04abcd\x01\x01", api.ErrShort},
		{"short ahead of both", "\x04ab-d\x01\x01", api.ErrShort},
		{"no name ahead of the form", "\x02R1\x01", api.ErrName},
		{"a sign ahead of the form", "\x02a-\x01", api.ErrName},
		{"too many ahead of the form", "\x0dabcdefghijklm\x01\x01", api.ErrName},
		{"a first byte of 0 ahead of the form", "\x00abc", api.ErrName},
	} {
		if s, used, e := TakeName([]byte(c.b)); e != c.want || s != "" || used != 0 {
			t.Errorf("%s: TakeName(%q) = %q, %d, %d, want %d", c.name, c.b, s, used, e, c.want)
		}
	}
	if s, used, e := TakeName(nil); e != api.ErrShort || s != "" || used != 0 {
		t.Errorf("TakeName(nil) = %q, %d, %d", s, used, e)
	}
}

// Each first byte, with each number of bytes around what it says: letters, and noughts where they must be.
func TestTakeNameOfEachFirstByte(t *testing.T) {
	for first := range 256 {
		full := wantBytes(strings.Repeat("a", first))
		for size := range len(full) + 6 {
			b := slices.Concat(full, []byte{9, 9, 9, 9, 9, 9})[:size]
			s, used, e := TakeName(b)
			switch {
			case size < len(full):
				if e != api.ErrShort || s != "" || used != 0 {
					t.Fatalf("TakeName(%q) = %q, %d, %d", b, s, used, e)
				}
			case first == 0 || first > 12:
				if e != api.ErrName || s != "" || used != 0 {
					t.Fatalf("TakeName(%q) = %q, %d, %d", b, s, used, e)
				}
			default:
				if e != api.OK || s != strings.Repeat("a", first) || used != len(full) {
					t.Fatalf("TakeName(%q) = %q, %d, %d", b, s, used, e)
				}
			}
		}
	}
}

func TestTakeNameOfEachByteBehindAName(t *testing.T) {
	for _, s := range namesOfEachLength() {
		full := wantBytes(s)
		for at := 1 + len(s); at < len(full); at++ {
			for c := 1; c < 256; c++ {
				b := slices.Clone(full)
				b[at] = byte(c)
				if got, used, e := TakeName(b); e != api.ErrForm || got != "" || used != 0 {
					t.Fatalf("TakeName(%q) = %q, %d, %d", b, got, used, e)
				}
			}
		}
	}
}

// What is beyond a list's length is not the list's, whatever its capacity.
func TestTakeNameStaysWithinTheLength(t *testing.T) {
	b := []byte("\x02ab\x00\x00\x00\x00\x00")
	for size := range 4 {
		if s, used, e := TakeName(b[:size]); e != api.ErrShort || s != "" || used != 0 {
			t.Errorf("TakeName of %d bytes = %q, %d, %d", size, s, used, e)
		}
	}
}

// wantTakeName is P7.3 by the forms of all names that a list may begin with.
func wantTakeName(b []byte, known map[string]bool) (string, int, api.Errno) {
	if len(b) == 0 || len(b) < len(wantBytes(strings.Repeat("a", int(b[0])))) {
		return "", 0, api.ErrShort
	}
	s := string(b[1 : 1+int(b[0])])
	if !wantName(s, known) {
		return "", 0, api.ErrName
	}
	if !bytes.HasPrefix(b, wantBytes(s)) {
		return "", 0, api.ErrForm
	}
	return s, len(wantBytes(s)), api.OK
}

func TestTakeNameOfSpreadBytes(t *testing.T) {
	known, next := registers(), spread()
	seen := map[api.Errno]int{}
	alphabet := []byte("\x00\x00\x00aZzR109_R-\x01\x80")
	for range 400000 {
		b := make([]byte, next()%19)
		for n := range b {
			b[n] = alphabet[next()%uint32(len(alphabet))]
		}
		if len(b) > 0 {
			b[0] = byte(next() % 15)
		}
		s, used, e := TakeName(b)
		wantS, wantUsed, wantE := wantTakeName(b, known)
		if s != wantS || used != wantUsed || e != wantE {
			t.Fatalf("TakeName(%q) = %q, %d, %d, want %q, %d, %d", b, s, used, e, wantS, wantUsed, wantE)
		}
		seen[e]++
		if e != api.OK {
			continue
		}
		if again, e := PutName(s); e != api.OK || !bytes.Equal(again, b[:used]) {
			t.Fatalf("%q was taken as %q, and put as %q, %d", b, s, again, e)
		}
	}
	for _, e := range []api.Errno{api.OK, api.ErrShort, api.ErrName, api.ErrForm} {
		if seen[e] < 1000 {
			t.Errorf("the error %d was told %d times only", e, seen[e])
		}
	}
}

// R7

func TestWhatIsHandedInStays(t *testing.T) {
	// The room behind a list is the caller's too.
	words := []uint32{1, 0x04030201, 0xFFFFFFFF, 77, 78}
	Put(words[:3])
	if !slices.Equal(words, []uint32{1, 0x04030201, 0xFFFFFFFF, 77, 78}) {
		t.Errorf("Put left %X", words)
	}
	for _, b := range []string{"\x01\x02\x03\x04\x05\x06\x07\x08\x09", "\x02ab\x00\x02ab", "\x02ab\x01\x00", "\x02R1\x00\x00", "\x04abcd\x00\x00", "\x00\x00\x00\x00"} {
		for size := range len(b) + 1 {
			given := []byte(b)
			for n := -1; n < 4; n++ {
				Take(given[:size], n)
			}
			TakeName(given[:size])
			if string(given) != b {
				t.Errorf("of %q, cut at %d, there is left %q", b, size, given)
			}
		}
	}
}

func TestWhatIsToldIsTheCallersOwn(t *testing.T) {
	words := []uint32{0x04030201, 5}
	putBytes := Put(words)
	words[0], words[1] = 9, 9
	if string(putBytes) != "\x01\x02\x03\x04\x05\x00\x00\x00" {
		t.Errorf("Put's bytes became %X", putBytes)
	}
	given := []byte("\x01\x02\x03\x04\x05\x06\x07\x08")
	taken, _ := Take(given, 2)
	clear(given)
	if !slices.Equal(taken, []uint32{0x04030201, 0x08070605}) {
		t.Errorf("Take's words became %X", taken)
	}
	given = []byte("\x02ab\x00")
	name, _, _ := TakeName(given)
	given[1], given[2] = 'x', 'y'
	if name != "ab" {
		t.Errorf("TakeName's name became %q", name)
	}
}

func TestAnswersAreApart(t *testing.T) {
	onePut, twoPut := Put([]uint32{1, 2}), Put([]uint32{1, 2})
	oneTaken, _ := Take(onePut, 2)
	twoTaken, _ := Take(onePut, 2)
	oneName, _ := PutName("abcd")
	twoName, _ := PutName("abcd")
	spoilBytes(onePut)
	spoilBytes(oneName)
	oneTaken[0], oneTaken[1] = 7, 7
	_ = append(oneTaken[:1], 8)
	if string(twoPut) != "\x01\x00\x00\x00\x02\x00\x00\x00" || !slices.Equal(twoTaken, []uint32{1, 2}) || string(twoName) != "\x04abcd\x00\x00\x00" {
		t.Errorf("answers are shared: %X, %X, %q", twoPut, twoTaken, twoName)
	}
	if b := Put([]uint32{1, 2}); string(b) != "\x01\x00\x00\x00\x02\x00\x00\x00" {
		t.Errorf("Put again = %X", b)
	}
	if b, e := PutName("abcd"); e != api.OK || string(b) != "\x04abcd\x00\x00\x00" {
		t.Errorf("PutName again = %q, %d", b, e)
	}
}

// spoilBytes writes over all of b, and over the room behind it.
func spoilBytes(b []byte) {
	b = b[:cap(b)]
	for n := range b {
		b[n] = 0xEE
	}
}
