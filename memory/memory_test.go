package memory

import (
	"math"
	"slices"
	"testing"

	"rivet/api"
)

// counts are memories of the least and the greatest numbers of words, and of some between.
var counts = []int{0, 1, 2, 3, 5, 64, 1023, 1024, 4095, 4096}

func fresh(t *testing.T, count int) *Memory {
	t.Helper()
	m, e := New(count)
	if e != api.OK || m == nil {
		t.Fatalf("New(%d) = %v, %d", count, m, e)
	}
	return m
}

// mixed are words of which no two bytes near each other are the same.
func mixed(count int) []uint32 {
	l := make([]uint32, count)
	for n := range l {
		l[n] = uint32(n)*0x9E3779B1 + 0x04030201
	}
	return l
}

// full is a memory of mixed words, set one by one.
func full(t *testing.T, count int) *Memory {
	t.Helper()
	m := fresh(t, count)
	for n, x := range mixed(count) {
		if trap := m.SetWord(uint32(4*n), x); trap != api.Running {
			t.Fatalf("the word %d of %d: trap %d", n, count, trap)
		}
	}
	holds(t, "full", m, mixed(count))
	return m
}

// holds looks at all of a memory, by each of the calls that tell of it.
func holds(t *testing.T, name string, m *Memory, want []uint32) {
	t.Helper()
	if got := m.Words(); !slices.Equal(got, want) {
		t.Errorf("%s: the words are %X, want %X", name, got, want)
	}
	for n, x := range want {
		at := uint32(4 * n)
		if got, trap := m.Word(at); got != x || trap != api.Running {
			t.Errorf("%s: Word(%d) = %X, %d, want %X", name, at, got, trap, x)
		}
		for k, b := range bytesOf(x) {
			if got, trap := m.Byte(at + uint32(k)); got != b || trap != api.Running {
				t.Errorf("%s: Byte(%d) = %X, %d, want %X", name, at+uint32(k), got, trap, b)
			}
		}
	}
}

// bytesOf tells the bytes of a word by division: the lowest one first.
func bytesOf(x uint32) [4]byte {
	return [4]byte{byte(x % 256), byte(x / 256 % 256), byte(x / 65536 % 256), byte(x / 16777216)}
}

func wordOf(b [4]byte) uint32 {
	return uint32(b[0]) + 256*uint32(b[1]) + 65536*uint32(b[2]) + 16777216*uint32(b[3])
}

// P5.1

func TestNewHasNoughts(t *testing.T) {
	for count := range api.MaxMem + 1 {
		m, e := New(count)
		if e != api.OK || m == nil {
			t.Fatalf("New(%d) = %v, %d", count, m, e)
		}
		if l := m.Words(); !slices.Equal(l, make([]uint32, count)) {
			t.Fatalf("New(%d) has the words %X", count, l)
		}
	}
	for _, count := range counts {
		holds(t, "new", fresh(t, count), make([]uint32, count))
	}
}

func TestNewOfTooFewAndTooMany(t *testing.T) {
	for _, count := range []int{-1, -2, -4096, 4097, 4098, 8192, 65536, 1 << 32, 1<<32 + 1, -1 << 32, 1 - 1<<32, math.MinInt, math.MinInt + 1, math.MaxInt} {
		if m, e := New(count); m != nil || e != api.ErrBig {
			t.Errorf("New(%d) = %v, %d", count, m, e)
		}
	}
}

func TestMemoriesAreApart(t *testing.T) {
	first := full(t, 4096)
	second := fresh(t, 4096)
	holds(t, "behind a full one", second, make([]uint32, 4096))
	second.SetWord(8, 1)
	second.SetByte(13, 2)
	second.Place(100, []uint32{3, 4})
	holds(t, "the first one", first, mixed(4096))
}

func TestWordsAreTheCallersOwn(t *testing.T) {
	m := full(t, 5)
	one, two := m.Words(), m.Words()
	for n := range one {
		one[n] = 0xDEADBEEF
	}
	_ = append(one[:2], 1, 2, 3)
	holds(t, "once what was told changed", m, mixed(5))
	if !slices.Equal(two, mixed(5)) {
		t.Errorf("what was told twice is shared: %X", two)
	}
	m.SetWord(0, 1)
	m.SetByte(7, 2)
	m.Place(2, []uint32{3, 4, 5})
	if !slices.Equal(two, mixed(5)) {
		t.Errorf("what was told has changed with the memory: %X", two)
	}
}

// P5.2

func TestPlaceOfNamedPlaces(t *testing.T) {
	for _, c := range []struct {
		name  string
		count int
		at    int
		l     []uint32
		e     api.Errno
		want  []uint32
	}{
		{"at 0", 4, 0, []uint32{1, 2}, api.OK, []uint32{1, 2, 9, 9}},
		{"in the midst", 4, 1, []uint32{1, 2}, api.OK, []uint32{9, 1, 2, 9}},
		{"the last ones", 4, 2, []uint32{1, 2}, api.OK, []uint32{9, 9, 1, 2}},
		{"the last one", 4, 3, []uint32{1}, api.OK, []uint32{9, 9, 9, 1}},
		{"all of them", 4, 0, []uint32{1, 2, 3, 4}, api.OK, []uint32{1, 2, 3, 4}},
		{"noughts", 4, 1, []uint32{0, 0}, api.OK, []uint32{9, 0, 0, 9}},
		{"none at 0", 4, 0, nil, api.OK, []uint32{9, 9, 9, 9}},
		{"none in the midst", 4, 2, []uint32{}, api.OK, []uint32{9, 9, 9, 9}},
		{"none at the end", 4, 4, nil, api.OK, []uint32{9, 9, 9, 9}},
		{"none in none", 0, 0, nil, api.OK, nil},
		{"one in one", 1, 0, []uint32{7}, api.OK, []uint32{7}},
		{"none behind one", 1, 1, nil, api.OK, []uint32{9}},
		{"one in none", 0, 0, []uint32{1}, api.ErrBase, nil},
		{"none behind none", 0, 1, nil, api.ErrBase, nil},
		{"one more at 0", 4, 0, []uint32{1, 2, 3, 4, 5}, api.ErrBase, []uint32{9, 9, 9, 9}},
		{"one more in the midst", 4, 2, []uint32{1, 2, 3}, api.ErrBase, []uint32{9, 9, 9, 9}},
		{"one more at the last", 4, 3, []uint32{1, 2}, api.ErrBase, []uint32{9, 9, 9, 9}},
		{"one at the end", 4, 4, []uint32{1}, api.ErrBase, []uint32{9, 9, 9, 9}},
		{"none beyond the end", 4, 5, nil, api.ErrBase, []uint32{9, 9, 9, 9}},
		{"one beyond the end", 4, 5, []uint32{1}, api.ErrBase, []uint32{9, 9, 9, 9}},
		{"at the end of the greatest", 4, 4096, nil, api.ErrBase, []uint32{9, 9, 9, 9}},
		{"none below 0", 4, -1, nil, api.ErrBase, []uint32{9, 9, 9, 9}},
		{"one below 0", 4, -1, []uint32{1}, api.ErrBase, []uint32{9, 9, 9, 9}},
		{"from below 0 on", 4, -1, []uint32{1, 2}, api.ErrBase, []uint32{9, 9, 9, 9}},
		{"at the greatest", 4, math.MaxInt, []uint32{1}, api.ErrBase, []uint32{9, 9, 9, 9}},
		{"none at the greatest", 4, math.MaxInt, nil, api.ErrBase, []uint32{9, 9, 9, 9}},
		{"at the least", 4, math.MinInt, []uint32{1}, api.ErrBase, []uint32{9, 9, 9, 9}},
		{"none at the least", 4, math.MinInt, nil, api.ErrBase, []uint32{9, 9, 9, 9}},
		{"at 2^32", 4, 1 << 32, []uint32{1}, api.ErrBase, []uint32{9, 9, 9, 9}},
		{"at -2^32", 4, -1 << 32, []uint32{1}, api.ErrBase, []uint32{9, 9, 9, 9}},
	} {
		m := fresh(t, c.count)
		for n := range c.count {
			m.SetWord(uint32(4*n), 9)
		}
		if e := m.Place(c.at, c.l); e != c.e {
			t.Errorf("%s: Place told %d, want %d", c.name, e, c.e)
		}
		holds(t, c.name, m, c.want)
	}
}

// wantPlace tells the words of a memory behind Place, one by one, in numbers that do not go round.
func wantPlace(words []uint32, at int, l []uint32) ([]uint32, api.Errno) {
	want := slices.Clone(words)
	if at < 0 || at > len(words) {
		return want, api.ErrBase
	}
	for n, x := range l {
		if at+n >= len(words) {
			return slices.Clone(words), api.ErrBase
		}
		want[at+n] = x
	}
	return want, api.OK
}

func TestPlaceAtAllPlacesOfSmallMemories(t *testing.T) {
	for count := range 7 {
		for at := -9; at <= 9; at++ {
			for length := range 10 {
				l := slices.Repeat([]uint32{0xA5A5A5A5}, length)
				want, e := wantPlace(mixed(count), at, l)
				m := full(t, count)
				if got := m.Place(at, l); got != e {
					t.Errorf("Place at %d of %d words in %d told %d, want %d", at, length, count, got, e)
				}
				holds(t, "placed", m, want)
			}
		}
	}
}

func TestPlaceAtTheEdgesOfAllMemories(t *testing.T) {
	for _, count := range counts {
		for _, at := range []int{0, 1, count / 2, count - 1, count, count + 1, 4096, 4097} {
			for _, length := range []int{0, 1, max(count-at, 0), max(count-at+1, 0), count, count + 1, 4096, 4097, 10000} {
				l := slices.Repeat([]uint32{0x5A5A5A5A}, length)
				want, e := wantPlace(mixed(count), at, l)
				m := full(t, count)
				if got := m.Place(at, l); got != e {
					t.Errorf("Place at %d of %d words in %d told %d, want %d", at, length, count, got, e)
				}
				if got := m.Words(); !slices.Equal(got, want) {
					t.Errorf("Place at %d of %d words in %d left other words", at, length, count)
				}
			}
		}
	}
}

func TestWhatWasPlacedIsTheCallersOwn(t *testing.T) {
	m := fresh(t, 4)
	l := []uint32{1, 2, 3, 4}
	if e := m.Place(0, l); e != api.OK {
		t.Fatal(e)
	}
	m.SetWord(0, 10)
	m.SetByte(4, 20)
	m.Place(2, []uint32{30, 40})
	if !slices.Equal(l, []uint32{1, 2, 3, 4}) {
		t.Errorf("what was placed has changed with the memory: %d", l)
	}
	for n := range l {
		l[n] = 0xDEADBEEF
	}
	holds(t, "once what was placed changed", m, []uint32{10, 20, 30, 40})
}

func TestPlaceOfAPieceLeavesTheListBehindIt(t *testing.T) {
	m := fresh(t, 3)
	l := []uint32{1, 2, 3, 4, 5}
	if e := m.Place(1, l[1:3]); e != api.OK {
		t.Error(e)
	}
	holds(t, "a piece", m, []uint32{0, 2, 3})
	if e := m.Place(0, l[:4]); e != api.ErrBase {
		t.Error(e)
	}
	if !slices.Equal(l, []uint32{1, 2, 3, 4, 5}) {
		t.Errorf("the list has changed: %d", l)
	}
}

func TestPlaceOfItsOwnWords(t *testing.T) {
	m := fresh(t, 4)
	m.Place(0, []uint32{1, 2, 3, 4})
	if e := m.Place(1, m.Words()[:3]); e != api.OK {
		t.Error(e)
	}
	holds(t, "its own words, moved up", m, []uint32{1, 1, 2, 3})
}

// P5.3

// addresses are all around the ends of a memory, around those of other ones, and the greatest ones.
func addresses(count int) []uint32 {
	var all []uint32
	for _, end := range []int{0, 4 * count, 4 * api.MaxMem, 1 << 16, 1 << 30, 1 << 31, 1 << 32} {
		for d := -9; d <= 9; d++ {
			all = append(all, uint32(end+d))
		}
	}
	return append(all, api.PortIn, api.PortOut, api.PortHalt, 0x40000004, 0x80000004, 0xC0000004)
}

// traps tells what the chapter says of an address, in whole numbers.
func traps(count int, at uint32) (ofWord, ofByte int) {
	if int(at) >= 4*count {
		ofWord, ofByte = api.TrMem, api.TrMem
	}
	if at%4 != 0 {
		ofWord = api.TrAlign
	}
	return ofWord, ofByte
}

func TestWhatThereIsAtAllAddresses(t *testing.T) {
	for _, count := range counts {
		m, words := full(t, count), mixed(count)
		for _, at := range addresses(count) {
			ofWord, ofByte := traps(count, at)
			var x uint32
			var b byte
			if ofWord == api.Running {
				x = words[at/4]
			}
			if ofByte == api.Running {
				b = bytesOf(words[at/4])[at%4]
			}
			if got, trap := m.Word(at); got != x || trap != ofWord {
				t.Errorf("of %d words Word(%X) = %X, %d, want %X, %d", count, at, got, trap, x, ofWord)
			}
			if got, trap := m.Byte(at); got != b || trap != ofByte {
				t.Errorf("of %d words Byte(%X) = %X, %d, want %X, %d", count, at, got, trap, b, ofByte)
			}
		}
		if got := m.Words(); !slices.Equal(got, words) {
			t.Errorf("what was looked at has changed: of %d words", count)
		}
	}
}

func TestSettingAtAllAddresses(t *testing.T) {
	for _, count := range counts {
		m, words := full(t, count), mixed(count)
		for n, at := range addresses(count) {
			ofWord, ofByte := traps(count, at)
			x, b := uint32(n)*0x01234567+0x89ABCDEF, byte(n*7+1)
			if ofWord == api.Running {
				words[at/4] = x
			}
			if trap := m.SetWord(at, x); trap != ofWord || !slices.Equal(m.Words(), words) {
				t.Errorf("of %d words SetWord(%X, %X) = %d, want %d, or other words have changed", count, at, x, trap, ofWord)
			}
			if ofByte == api.Running {
				four := bytesOf(words[at/4])
				four[at%4] = b
				words[at/4] = wordOf(four)
			}
			if trap := m.SetByte(at, b); trap != ofByte || !slices.Equal(m.Words(), words) {
				t.Errorf("of %d words SetByte(%X, %X) = %d, want %d, or other words have changed", count, at, b, trap, ofByte)
			}
		}
	}
}

func TestWhichTrapIsTold(t *testing.T) {
	for _, c := range []struct {
		name           string
		count          int
		at             uint32
		ofWord, ofByte int
	}{
		{"the first word", 2, 0, api.Running, api.Running},
		{"within the first word", 2, 1, api.TrAlign, api.Running},
		{"half of the first word", 2, 2, api.TrAlign, api.Running},
		{"the last byte of the first word", 2, 3, api.TrAlign, api.Running},
		{"the last word", 2, 4, api.Running, api.Running},
		{"the last byte", 2, 7, api.TrAlign, api.Running},
		{"the end", 2, 8, api.TrMem, api.TrMem},
		{"one behind the end", 2, 9, api.TrAlign, api.TrMem},
		{"three behind the end", 2, 11, api.TrAlign, api.TrMem},
		{"a word behind the end", 2, 12, api.TrMem, api.TrMem},
		{"the first word of none", 0, 0, api.TrMem, api.TrMem},
		{"the second byte of none", 0, 1, api.TrAlign, api.TrMem},
		{"the last word of the greatest", 4096, 16380, api.Running, api.Running},
		{"the last byte of the greatest", 4096, 16383, api.TrAlign, api.Running},
		{"the end of the greatest", 4096, 16384, api.TrMem, api.TrMem},
		{"one behind the end of the greatest", 4096, 16385, api.TrAlign, api.TrMem},
		{"the greatest word", 4096, 0xFFFFFFFC, api.TrMem, api.TrMem},
		{"within the greatest word", 4096, 0xFFFFFFFE, api.TrAlign, api.TrMem},
		{"the greatest byte", 4096, 0xFFFFFFFF, api.TrAlign, api.TrMem},
		{"a port", 4096, api.PortOut, api.TrMem, api.TrMem},
	} {
		m := full(t, c.count)
		if x, trap := m.Word(c.at); trap != c.ofWord || trap != api.Running && x != 0 {
			t.Errorf("%s: Word(%X) = %X, %d, want the trap %d", c.name, c.at, x, trap, c.ofWord)
		}
		if x, trap := m.Byte(c.at); trap != c.ofByte || trap != api.Running && x != 0 {
			t.Errorf("%s: Byte(%X) = %X, %d, want the trap %d", c.name, c.at, x, trap, c.ofByte)
		}
		if trap := m.SetWord(c.at, 0x12345678); trap != c.ofWord {
			t.Errorf("%s: SetWord(%X) = %d, want %d", c.name, c.at, trap, c.ofWord)
		}
		if c.ofWord != api.Running {
			holds(t, c.name, m, mixed(c.count))
		}
		before := m.Words()
		if trap := m.SetByte(c.at, 0x9A); trap != c.ofByte {
			t.Errorf("%s: SetByte(%X) = %d, want %d", c.name, c.at, trap, c.ofByte)
		}
		if c.ofByte != api.Running {
			holds(t, c.name, m, before)
		}
	}
}

func TestEachByteOfAWord(t *testing.T) {
	m := fresh(t, 3)
	m.Place(0, []uint32{0x04030201, 0x80FF007F, 0xDDCCBBAA})
	for at, want := range []byte{1, 2, 3, 4, 0x7F, 0, 0xFF, 0x80, 0xAA, 0xBB, 0xCC, 0xDD} {
		if got, trap := m.Byte(uint32(at)); got != want || trap != api.Running {
			t.Errorf("Byte(%d) = %X, %d, want %X", at, got, trap, want)
		}
	}
}

func TestOneByteSetLeavesTheOthers(t *testing.T) {
	for _, c := range []struct {
		was  uint32
		x    byte
		want [4]uint32
	}{
		{0x04030201, 0xEE, [4]uint32{0x040302EE, 0x0403EE01, 0x04EE0201, 0xEE030201}},
		{0xFFFFFFFF, 0x00, [4]uint32{0xFFFFFF00, 0xFFFF00FF, 0xFF00FFFF, 0x00FFFFFF}},
		{0x00000000, 0xFF, [4]uint32{0x000000FF, 0x0000FF00, 0x00FF0000, 0xFF000000}},
		{0xAAAAAAAA, 0x55, [4]uint32{0xAAAAAA55, 0xAAAA55AA, 0xAA55AAAA, 0x55AAAAAA}},
		{0x80808080, 0x80, [4]uint32{0x80808080, 0x80808080, 0x80808080, 0x80808080}},
	} {
		for n := range 3 {
			for k, want := range c.want {
				m := fresh(t, 3)
				m.Place(0, []uint32{c.was, c.was, c.was})
				words := []uint32{c.was, c.was, c.was}
				words[n] = want
				if trap := m.SetByte(uint32(4*n+k), c.x); trap != api.Running {
					t.Errorf("the byte %d of the word %d: trap %d", k, n, trap)
				}
				holds(t, "one byte", m, words)
			}
		}
	}
}

func TestTheFirstAndTheLastWord(t *testing.T) {
	for _, count := range []int{1, 2, 4095, 4096} {
		for _, n := range []int{0, count - 1} {
			m := full(t, count)
			want := mixed(count)
			want[n] = 0xFEDCBA98
			if trap := m.SetWord(uint32(4*n), 0xFEDCBA98); trap != api.Running {
				t.Errorf("the word %d of %d: trap %d", n, count, trap)
			}
			holds(t, "a word", m, want)
			for k := range 4 {
				four := bytesOf(want[n])
				four[k] = byte(0x11 * (k + 1))
				want[n] = wordOf(four)
				if trap := m.SetByte(uint32(4*n+k), four[k]); trap != api.Running {
					t.Errorf("the byte %d of the word %d of %d: trap %d", k, n, count, trap)
				}
				holds(t, "a byte", m, want)
			}
			if want[n] != 0x44332211 {
				t.Errorf("four bytes are the word %X", want[n])
			}
		}
	}
}

// P5.4

// bytewise is a memory as a row of bytes, with nothing of the program in it.
type bytewise []byte

func (b bytewise) words() []uint32 {
	l := make([]uint32, len(b)/4)
	for n := range l {
		l[n] = wordOf([4]byte(b[4*n:]))
	}
	return l
}

func (b bytewise) set(n int, x uint32) {
	four := bytesOf(x)
	copy(b[4*n:], four[:])
}

// steps is a fixed rule that spreads numbers.
type steps uint32

func (s *steps) next() uint32 {
	*s ^= *s << 13
	*s ^= *s >> 17
	*s ^= *s << 5
	return uint32(*s)
}

// change makes one call of m, and does the same to b, if the chapter says that something changes; most calls are in bounds.
func change(t *testing.T, m *Memory, b bytewise, s *steps) {
	count := len(b) / 4
	kind, x := s.next()%4, s.next()
	at := s.next() % uint32(4*count+8)
	if kind == 0 {
		at &^= 3
	}
	ofWord, ofByte := traps(count, at)
	switch kind {
	case 0, 1:
		if ofWord == api.Running {
			b.set(int(at/4), x)
		}
		if trap := m.SetWord(at, x); trap != ofWord {
			t.Errorf("SetWord(%d, %X) = %d, want %d", at, x, trap, ofWord)
		}
	case 2:
		if ofByte == api.Running {
			b[at] = byte(x % 256)
		}
		if trap := m.SetByte(at, byte(x%256)); trap != ofByte {
			t.Errorf("SetByte(%d, %X) = %d, want %d", at, x%256, trap, ofByte)
		}
	case 3:
		l := make([]uint32, x%4)
		for n := range l {
			l[n] = s.next()
		}
		from := int(at/4) - 1
		words, e := wantPlace(b.words(), from, l)
		for n, w := range words {
			b.set(n, w)
		}
		if got := m.Place(from, l); got != e {
			t.Errorf("Place(%d, %X) = %d, want %d", from, l, got, e)
		}
	}
}

func TestWhatWasSetIsThere(t *testing.T) {
	for count := range 12 {
		m, b, s := fresh(t, count), make(bytewise, 4*count), steps(2463534242+count)
		for range 3000 {
			change(t, m, b, &s)
			holds(t, "a row of changes", m, b.words())
			if t.Failed() {
				return
			}
		}
	}
}

func TestAWordIsItsFourBytes(t *testing.T) {
	s := steps(88675123)
	asBytes, asWord := fresh(t, 3), fresh(t, 3)
	edges := []uint32{0, 1, 0xFF, 0x100, 0xFF00, 0xFF0000, 0xFF000000, 0x7FFFFFFF, 0x80000000, 0xFFFFFFFF, 0x04030201}
	for n := range 2000 {
		x := s.next()
		if n < len(edges) {
			x = edges[n]
		}
		for k, b := range bytesOf(x) {
			if trap := asBytes.SetByte(uint32(4+k), b); trap != api.Running {
				t.Fatalf("SetByte: trap %d", trap)
			}
		}
		if trap := asWord.SetWord(4, x); trap != api.Running {
			t.Fatalf("SetWord: trap %d", trap)
		}
		holds(t, "set as bytes", asBytes, []uint32{0, x, 0})
		holds(t, "set as a word", asWord, []uint32{0, x, 0})
	}
}

func TestEachWordOfTheGreatestMemoryIsItsOwn(t *testing.T) {
	m, want := fresh(t, 4096), make([]uint32, 4096)
	for n := range want {
		want[n] = uint32(n)*0x10001 + 1
		if trap := m.SetWord(uint32(4*n), want[n]); trap != api.Running {
			t.Fatalf("the word %d: trap %d", n, trap)
		}
	}
	holds(t, "one by one", m, want)
	for at := range 4 * 4096 {
		if trap := m.SetByte(uint32(at), byte(at*31)); trap != api.Running {
			t.Fatalf("the byte %d: trap %d", at, trap)
		}
		four := bytesOf(want[at/4])
		four[at%4] = byte(at * 31)
		want[at/4] = wordOf(four)
	}
	holds(t, "byte by byte", m, want)
}
