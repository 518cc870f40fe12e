package load

import (
	"fmt"
	"math"
	"math/big"
	"slices"
	"testing"

	"rivet/api"
	"rivet/isa"
	"rivet/machine"
)

// shown is an object for a message, cut where it is long.
func shown(o api.Obj) string {
	return fmt.Sprintf("%.300s", fmt.Sprintf("%X %d %#v", o.Words, o.Sites, o.Syms))
}

func copied(o api.Obj) api.Obj {
	return api.Obj{Words: slices.Clone(o.Words), Sites: slices.Clone(o.Sites), Syms: slices.Clone(o.Syms)}
}

func sym(name string, at int) api.Sym { return api.Sym{Name: name, At: at} }

func count(to int) []int {
	var l []int
	for n := range to {
		l = append(l, n)
	}
	return l
}

func manyNames(count int) []api.Sym {
	var l []api.Sym
	for n := range count {
		l = append(l, sym(fmt.Sprintf("name_%07d", n), 0))
	}
	return l
}

// mixed are words of which no two bytes near each other are the same.
func mixed(count int) []uint32 {
	l := make([]uint32, count)
	for n := range l {
		l[n] = uint32(n)*0x9E3779B1 + 0x04030201
	}
	return l
}

// modulo is x modulo 2^32, in whole numbers that never go round.
func modulo(x *big.Int) uint32 {
	return uint32(new(big.Int).Mod(x, big.NewInt(1<<32)).Uint64())
}

// wantImage is P12.1 of an object that may be, and of a base that may be, word by word.
func wantImage(o api.Obj, base int) []uint32 {
	var l []uint32
	for at, w := range o.Words {
		sum := big.NewInt(int64(w))
		if slices.Contains(o.Sites, at) {
			sum.Add(sum, big.NewInt(int64(base)))
		}
		l = append(l, modulo(sum))
	}
	return l
}

func imageIs(t *testing.T, name string, o api.Obj, base int, want []uint32) {
	t.Helper()
	if l, e := Image(o, base); e != api.OK || !slices.Equal(l, want) {
		t.Errorf("%s: Image(%s, %d) = %.300s, %d, want %.300s", name, shown(o), base, fmt.Sprintf("%X", l), e, fmt.Sprintf("%X", want))
	}
}

// imageFails and machineFails ask for the error, and that nothing else is told beside it (R2).
func imageFails(t *testing.T, name string, o api.Obj, base int, want api.Errno) {
	t.Helper()
	if l, e := Image(o, base); e != want || l != nil {
		t.Errorf("%s: Image(%s, %d) = %d words, %d, want the error %d", name, shown(o), base, len(l), e, want)
	}
}

func machineFails(t *testing.T, name string, o api.Obj, base, mem int, want api.Errno) {
	t.Helper()
	for _, in := range [][]uint32{nil, {}, {1, 2}} {
		if m, e := Machine(o, base, mem, in); e != want || m != nil {
			t.Errorf("%s: Machine(%s, %d, %d, %d) = %v, %d, want the error %d", name, shown(o), base, mem, in, m != nil, e, want)
		}
	}
}

func loaded(t *testing.T, name string, o api.Obj, base, mem int, in ...uint32) *machine.Machine {
	t.Helper()
	m, e := Machine(o, base, mem, in)
	if m == nil || e != api.OK {
		t.Fatalf("%s: Machine(%s, %d, %d, %d) = %v, %d", name, shown(o), base, mem, in, m != nil, e)
	}
	return m
}

// wantRegs is P12.2 of Regs.
func wantRegs(base, mem int) api.Regs {
	var s api.Regs
	s.R[13] = modulo(big.NewInt(int64(base)))
	s.R[14] = modulo(new(big.Int).Mul(big.NewInt(4), big.NewInt(int64(mem))))
	return s
}

// isLoaded asks for all that a machine tells of itself, before it has done a step.
func isLoaded(t *testing.T, name string, m *machine.Machine, o api.Obj, base, mem int) {
	t.Helper()
	words := make([]uint32, mem)
	for at, w := range wantImage(o, base) {
		words[base/4+at] = w
	}
	if got := m.Words(); !slices.Equal(got, words) {
		t.Errorf("%s: at %d of %d words: %.300s, want %.300s", name, base, mem, fmt.Sprintf("%X", got), fmt.Sprintf("%X", words))
	}
	if m.PC() != uint32(base) || m.Regs() != wantRegs(base, mem) || m.Status() != api.Running || len(m.Out()) != 0 {
		t.Errorf("%s: at %d of %d words: PC %d, %+v, %d, %d", name, base, mem, m.PC(), m.Regs(), m.Status(), m.Out())
	}
}

// P12.1: images

type loadCase struct {
	name  string
	o     api.Obj
	base  int
	image []uint32
}

// loadCases are objects and their images, written out.
func loadCases() []loadCase {
	example := api.Obj{Words: []uint32{4, 7}, Sites: []int{0}}
	alone := api.Obj{Words: []uint32{0x01234567, 0, 0xFFFFFFFF, 8}}
	three := api.Obj{Words: []uint32{4, 7, 8}, Sites: []int{0, 2}}
	all := api.Obj{Words: []uint32{0, 4, 8, 16}, Sites: []int{0, 1, 2, 3}}
	return []loadCase{
		{"an object of nothing", api.Obj{}, 0, nil},
		{"an object of nothing at 8", api.Obj{}, 8, nil},
		{"an object of nothing at the last base", api.Obj{}, 16384, nil},
		{"an object of empty lists", api.Obj{Words: []uint32{}, Sites: []int{}, Syms: []api.Sym{}}, 4, nil},
		{"names alone", api.Obj{Syms: []api.Sym{sym("a", 0), sym("b", 0)}}, 4, nil},
		{"the chapter's example", example, 8, []uint32{12, 7}},
		{"the chapter's example at 0", example, 0, []uint32{4, 7}},
		{"the chapter's example at 4", example, 4, []uint32{8, 7}},
		{"the chapter's example at 1024", example, 1024, []uint32{1028, 7}},
		{"the chapter's example at the last base but one", example, 16380, []uint32{16384, 7}},
		{"the chapter's example at the last base", example, 16384, []uint32{16388, 7}},
		{"words alone at 0", alone, 0, []uint32{0x01234567, 0, 0xFFFFFFFF, 8}},
		{"words alone at 4", alone, 4, []uint32{0x01234567, 0, 0xFFFFFFFF, 8}},
		{"words alone at the last base", alone, 16384, []uint32{0x01234567, 0, 0xFFFFFFFF, 8}},
		{"words near 2^32 that are no sites", api.Obj{Words: []uint32{0xFFFFFFFC, 0xFFFFC000, 0, 0xFFFFBFFF}, Sites: []int{2}}, 16384, []uint32{0xFFFFFFFC, 0xFFFFC000, 16384, 0xFFFFBFFF}},
		{"two sites at 0", three, 0, []uint32{4, 7, 8}},
		{"two sites at 12", three, 12, []uint32{16, 7, 20}},
		{"two sites at 256", three, 256, []uint32{260, 7, 264}},
		{"two sites at the last base", three, 16384, []uint32{16388, 7, 16392}},
		{"a site between words that are alike", api.Obj{Words: []uint32{4, 4, 4}, Sites: []int{1}}, 100, []uint32{4, 104, 4}},
		{"a site behind words", api.Obj{Words: []uint32{5, 6, 0}, Sites: []int{2}}, 20, []uint32{5, 6, 20}},
		{"sites that lead to no word's first byte", api.Obj{Words: []uint32{1, 7}, Sites: []int{0, 1}}, 8, []uint32{9, 15}},
		{"all words sites at 0", all, 0, []uint32{0, 4, 8, 16}},
		{"all words sites at 4", all, 4, []uint32{4, 8, 12, 20}},
		{"all words sites at the last base but one", all, 16380, []uint32{16380, 16384, 16388, 16396}},
		{"sites and names", api.Obj{Words: []uint32{8, 99, 3}, Sites: []int{0, 2}, Syms: []api.Sym{sym("B", 12), sym("twelve_bytes", 4)}}, 16, []uint32{24, 99, 19}},
		{"names at words that are no sites", api.Obj{Words: []uint32{4, 8}, Syms: []api.Sym{sym("a", 0), sym("b", 4)}}, 16, []uint32{4, 8}},
	}
}

func TestImages(t *testing.T) {
	for _, c := range loadCases() {
		imageIs(t, c.name, c.o, c.base, c.image)
		if want := wantImage(c.o, c.base); !slices.Equal(want, c.image) {
			t.Errorf("%s: the test's own image is %X", c.name, want)
		}
	}
}

// greatObjects are at, and just below, the bounds.
func greatObjects() []api.Obj {
	var l []api.Obj
	for _, size := range []int{255, 256, 1023, 1024} {
		words := make([]uint32, size)
		for at := range words {
			words[at] = uint32(4 * (size - at))
		}
		for _, sites := range [][]int{nil, {0}, {size - 1}, {0, size - 1}, count(size - 1), count(size)} {
			l = append(l, api.Obj{Words: words, Sites: sites}, api.Obj{Words: words, Sites: sites, Syms: manyNames(64)})
		}
		l = append(l, api.Obj{Words: mixed(size)}, api.Obj{Words: slices.Repeat([]uint32{0xFFFFFFFF}, size)})
	}
	return l
}

func TestImagesOfGreatObjects(t *testing.T) {
	for _, o := range greatObjects() {
		for _, base := range []int{0, 4, 256, 12288, 16380, 16384} {
			imageIs(t, "a great object", o, base, wantImage(o, base))
		}
	}
	// The greatest sum that there is.
	o := api.Obj{Words: slices.Repeat([]uint32{4096}, 1024), Sites: count(1024)}
	imageIs(t, "words that lead to the end", o, 16384, slices.Repeat([]uint32{20480}, 1024))
}

// A site's word is added to as a whole, whatever bits of it the base has.
func TestEachBase(t *testing.T) {
	objects := []api.Obj{{}, {Words: []uint32{3, 0xFFFFFFFC, 12}, Sites: []int{0, 2}}, {Words: []uint32{0xFFFFFFFC}}}
	for base := -20000; base <= 40000; base++ {
		for _, o := range objects {
			if base >= 0 && base <= 16384 && base%4 == 0 {
				imageIs(t, "a base", o, base, wantImage(o, base))
			} else {
				imageFails(t, "no base", o, base, api.ErrBase)
			}
		}
	}
}

// wrongBases are below 0, or no multiples of 4, or above the last one, though some would be bases, cut to fewer bits.
func wrongBases() []int {
	return []int{
		-1, -2, -3, -4, -8, -256, -16384, -65536, -1 << 31, -1 << 32, 4 - 1<<32, -1 << 33, math.MinInt, math.MinInt + 1, math.MinInt + 4, math.MinInt + 16384,
		1, 2, 3, 5, 6, 7, 9, 1022, 16379, 16381, 16382, 16383,
		16385, 16386, 16387, 16388, 16392, 20480, 32768, 65536, 1 << 20, 1<<31 - 4, 1 << 31, 1<<32 - 4, 1 << 32, 1<<32 + 4, 1<<32 + 8, 1 << 33, 1 << 62, math.MaxInt - 3, math.MaxInt,
	}
}

func TestBasesThatMayNotBe(t *testing.T) {
	for _, c := range loadCases() {
		for _, base := range wrongBases() {
			imageFails(t, c.name, c.o, base, api.ErrBase)
		}
	}
}

type wrongObject struct {
	name string
	o    api.Obj
	want api.Errno
}

func wrongObjects() []wrongObject {
	three := func(sites []int, syms ...api.Sym) api.Obj {
		return api.Obj{Words: []uint32{8, 99, 3}, Sites: sites, Syms: syms}
	}
	return []wrongObject{
		{"1025 words", api.Obj{Words: make([]uint32, 1025)}, api.ErrBig},
		{"4096 words", api.Obj{Words: make([]uint32, 4096)}, api.ErrBig},
		{"4097 words", api.Obj{Words: make([]uint32, 4097)}, api.ErrBig},
		{"65536 words", api.Obj{Words: make([]uint32, 65536)}, api.ErrBig},
		{"65 names", api.Obj{Syms: manyNames(65)}, api.ErrBig},
		{"sites that fall", three([]int{2, 0}), api.ErrSite},
		{"sites that are alike", three([]int{0, 0}), api.ErrSite},
		{"a site below 0", three([]int{-1}), api.ErrSite},
		{"the lowest number as a site", three([]int{math.MinInt}), api.ErrSite},
		{"a site of as many as there are words", three([]int{0, 2, 3}), api.ErrSite},
		{"a site beyond 32 bits", three([]int{1 << 32}), api.ErrSite},
		{"the greatest number as a site", three([]int{math.MaxInt}), api.ErrSite},
		{"a site of no words", api.Obj{Sites: []int{0}}, api.ErrSite},
		{"a site's word above the end", three([]int{1}), api.ErrValue},
		{"a site's word just above the end", api.Obj{Words: []uint32{5}, Sites: []int{0}}, api.ErrValue},
		{"a site's word of more than 16 bits", api.Obj{Words: []uint32{0x10004}, Sites: []int{0}}, api.ErrValue},
		{"an empty name", three(nil, sym("", 0)), api.ErrName},
		{"a register's name", three(nil, sym("R7", 0)), api.ErrName},
		{"names that fall", three(nil, sym("b", 0), sym("a", 0)), api.ErrName},
		{"names that are alike", three(nil, sym("a", 0), sym("a", 4)), api.ErrName},
		{"a place below 0", three(nil, sym("a", -4)), api.ErrValue},
		{"a place that is no multiple of 4", three(nil, sym("a", 2)), api.ErrValue},
		{"a place above the end", three(nil, sym("a", 16)), api.ErrValue},
		{"too many words, and wrong sites", api.Obj{Words: make([]uint32, 1025), Sites: []int{-1}}, api.ErrBig},
		{"a wrong site, and a site's word above the end", three([]int{1, 1}), api.ErrSite},
		{"a site's word above the end, and a wrong name", three([]int{1}, sym("", 0)), api.ErrValue},
		{"a wrong name, and a wrong place", three(nil, sym("a", -4), sym("", 0)), api.ErrName},
	}
}

func TestImagesOfObjectsThatMayNotBe(t *testing.T) {
	for _, c := range wrongObjects() {
		for _, base := range []int{0, 4, 8, 1024, 16380, 16384} {
			imageFails(t, c.name, c.o, base, c.want)
		}
	}
}

// A word whose sum with a base would begin anew is above the end of each object: it is none that a site may have.
func TestWordsNear2To32AtASite(t *testing.T) {
	for _, w := range []uint32{0x80000000, 0xFFFFBFFC, 0xFFFFC000, 0xFFFFC004, 0xFFFFFFF8, 0xFFFFFFFC, 0xFFFFFFFF} {
		for _, size := range []int{1, 2, 1023, 1024} {
			for _, base := range []int{0, 4, 16380, 16384} {
				words := make([]uint32, size)
				words[size-1] = w
				imageFails(t, "at a site", api.Obj{Words: words, Sites: []int{size - 1}}, base, api.ErrValue)
				machineFails(t, "at a site", api.Obj{Words: words, Sites: []int{size - 1}}, base, 4096, api.ErrValue)
				o := api.Obj{Words: words, Sites: count(size - 1)}
				imageIs(t, "at no site", o, base, wantImage(o, base))
			}
		}
	}
}

// R3: an object's error goes ahead of the base's
func TestImagesOfWrongObjectsAtWrongBases(t *testing.T) {
	for _, c := range wrongObjects() {
		for _, base := range wrongBases() {
			imageFails(t, c.name, c.o, base, c.want)
		}
	}
}

// P12.2: registers

func TestRegs(t *testing.T) {
	for _, c := range []struct {
		base, mem int
		r13, r14  uint32
	}{
		{0, 0, 0, 0},
		{8, 6, 8, 24},
		{4, 1, 4, 4},
		{0, 4096, 0, 16384},
		{16384, 4096, 16384, 16384},
		{16384, 0, 16384, 0},
		{1, 0, 1, 0},
		{2, 3, 2, 12},
		{16385, 4097, 16385, 16388},
		{-1, 0, 0xFFFFFFFF, 0},
		{0, -1, 0, 0xFFFFFFFC},
		{-4, -2, 0xFFFFFFFC, 0xFFFFFFF8},
		{-16384, -4096, 0xFFFFC000, 0xFFFFC000},
		{1<<31 - 1, 1<<31 - 1, 0x7FFFFFFF, 0xFFFFFFFC},
		{1 << 31, 1 << 31, 0x80000000, 0},
		{-1 << 31, -1 << 31, 0x80000000, 0},
		{1<<32 - 1, 1<<32 - 1, 0xFFFFFFFF, 0xFFFFFFFC},
		{1 << 32, 1 << 32, 0, 0},
		{1<<32 + 5, 1<<32 + 5, 5, 20},
		{5 - 1<<32, 5 - 1<<32, 5, 20},
		{-1<<32 - 1, -1<<32 - 1, 0xFFFFFFFF, 0xFFFFFFFC},
		{7, 1 << 29, 7, 0x80000000},
		{7, 1<<30 - 1, 7, 0xFFFFFFFC},
		{7, 1 << 30, 7, 0},
		{7, 1<<30 + 1, 7, 4},
		{7, -1 << 30, 7, 0},
		{7, -1<<30 - 1, 7, 0xFFFFFFFC},
		{1 << 62, 1 << 62, 0, 0},
		{1<<62 + 3, 1<<61 + 3, 3, 12},
		{math.MaxInt, math.MaxInt, 0xFFFFFFFF, 0xFFFFFFFC},
		{math.MinInt, math.MinInt, 0, 0},
		{math.MinInt + 1, math.MinInt + 1, 1, 4},
		{math.MaxInt, math.MinInt, 0xFFFFFFFF, 0},
		{math.MinInt, math.MaxInt, 0, 0xFFFFFFFC},
	} {
		var want api.Regs
		want.R[13], want.R[14] = c.r13, c.r14
		if got := Regs(c.base, c.mem); got != want {
			t.Errorf("Regs(%d, %d) = %+v", c.base, c.mem, got)
		}
		if own := wantRegs(c.base, c.mem); own != want {
			t.Errorf("the test's own registers of %d, %d are %+v", c.base, c.mem, own)
		}
	}
}

// spread tells numbers of a fixed rule, the same ones in each run.
func spread() func(below int) int {
	x := uint32(2463534242)
	return func(below int) int {
		x ^= x << 13
		x ^= x >> 17
		x ^= x << 5
		return int(x % uint32(below))
	}
}

// spreadNumber is one of as many bits as may be, of either sign.
func spreadNumber(next func(int) int) int {
	x := next(65536)<<48 | next(65536)<<32 | next(65536)<<16 | next(65536)
	return x >> next(64)
}

func TestRegsOfSpreadNumbers(t *testing.T) {
	next, below := spread(), 0
	for range 200000 {
		base, mem := spreadNumber(next), spreadNumber(next)
		if base < 0 && mem < 0 {
			below++
		}
		if got := Regs(base, mem); got != wantRegs(base, mem) {
			t.Fatalf("Regs(%d, %d) = %+v, want %+v", base, mem, got, wantRegs(base, mem))
		}
	}
	if below < 1000 {
		t.Errorf("only %d were below 0", below)
	}
}

func TestRegsOfEachBit(t *testing.T) {
	for bit := range 64 {
		for _, x := range []int{1 << bit, -1 << bit, 1<<bit - 1, 1<<bit + 1} {
			if Regs(x, 0) != wantRegs(x, 0) || Regs(0, x) != wantRegs(0, x) {
				t.Errorf("%d: Regs %+v and %+v", x, Regs(x, 0), Regs(0, x))
			}
		}
	}
}

// P12.2: machines

func TestMachines(t *testing.T) {
	for _, c := range loadCases() {
		for _, more := range []int{0, 1, 7} {
			mem := min(c.base/4+len(c.o.Words)+more, 4096)
			if c.base/4+len(c.o.Words) > mem {
				machineFails(t, c.name, c.o, c.base, mem, api.ErrBase)
				continue
			}
			isLoaded(t, c.name, loaded(t, c.name, c.o, c.base, mem), c.o, c.base, mem)
		}
	}
}

// All that a machine of the chapter's example tells, written out.
func TestTheMachineOfTheExample(t *testing.T) {
	o := api.Obj{Words: []uint32{4, 7}, Sites: []int{0}}
	m := loaded(t, "the example", o, 8, 6)
	regs := api.Regs{R: [16]uint32{0, 0, 0, 0, 0, 0, 0, 0, 0, 0, 0, 0, 0, 8, 24, 0}}
	if got := m.Words(); !slices.Equal(got, []uint32{0, 0, 12, 7, 0, 0}) {
		t.Errorf("words %d", got)
	}
	if m.PC() != 8 || m.Regs() != regs || m.Status() != api.Running || len(m.Out()) != 0 {
		t.Errorf("PC %d, %+v, %d, %d", m.PC(), m.Regs(), m.Status(), m.Out())
	}
}

func TestMachinesOfGreatObjects(t *testing.T) {
	for _, o := range greatObjects() {
		size := len(o.Words)
		for _, base := range []int{0, 4, 4 * size, 4 * (4096 - size)} {
			for _, mem := range []int{base/4 + size, base/4 + size + 1, 4095, 4096} {
				if mem <= 4096 && base/4+size <= mem {
					isLoaded(t, "a great object", loaded(t, "a great object", o, base, mem), o, base, mem)
				}
			}
			machineFails(t, "a great object in a word too few", o, base, base/4+size-1, api.ErrBase)
		}
		machineFails(t, "a great object a word too high", o, 4*(4096-size)+4, 4096, api.ErrBase)
		machineFails(t, "a great object at the last base", o, 16384, 4096, api.ErrBase)
	}
}

func TestMemoriesOfTheLeastAndTheMostWords(t *testing.T) {
	for _, base := range []int{0, 4, 16380, 16384} {
		for _, size := range []int{0, 1, 2} {
			for _, mem := range []int{0, 1, 4095, 4096} {
				o := api.Obj{Words: mixed(size)}
				if base/4+size <= mem {
					isLoaded(t, "a memory", loaded(t, "a memory", o, base, mem), o, base, mem)
				} else {
					machineFails(t, "a memory", o, base, mem, api.ErrBase)
				}
			}
		}
	}
	isLoaded(t, "nothing in nothing", loaded(t, "nothing in nothing", api.Obj{}, 0, 0), api.Obj{}, 0, 0)
	isLoaded(t, "nothing at the greatest end", loaded(t, "nothing at the greatest end", api.Obj{}, 16384, 4096), api.Obj{}, 16384, 4096)
	isLoaded(t, "one word in one word", loaded(t, "one word in one word", api.Obj{Words: []uint32{9}}, 0, 1), api.Obj{Words: []uint32{9}}, 0, 1)
	machineFails(t, "nothing behind nothing", api.Obj{}, 4, 0, api.ErrBase)
	machineFails(t, "one word in nothing", api.Obj{Words: []uint32{9}}, 0, 0, api.ErrBase)
	machineFails(t, "nothing behind the end", api.Obj{}, 12, 2, api.ErrBase)
}

// wrongMems are no memories, though some would be, cut to fewer bits.
func wrongMems() []int {
	return []int{
		-1, -2, -4, -4096, -1 << 31, -1 << 32, 8 - 1<<32, math.MinInt, math.MinInt + 8,
		4097, 4098, 8192, 16384, 65536, 65536 + 8, 1 << 30, 1<<30 + 8, 1 << 32, 1<<32 + 8, 1<<32 + 4096, 1 << 62, math.MaxInt,
	}
}

func TestMemoriesThatMayNotBe(t *testing.T) {
	for _, c := range loadCases() {
		for _, mem := range wrongMems() {
			machineFails(t, c.name, c.o, c.base, mem, api.ErrBig)
		}
	}
}

// R3: object.May's error, Image's, machine.New's, Place's

func TestWrongObjectsGoAheadOfAll(t *testing.T) {
	for _, c := range wrongObjects() {
		for _, base := range append(wrongBases(), 0, 4, 16384) {
			for _, mem := range append(wrongMems(), 0, 2, 4096) {
				machineFails(t, c.name, c.o, base, mem, c.want)
			}
		}
	}
}

func TestWrongBasesGoAheadOfMemories(t *testing.T) {
	for _, o := range []api.Obj{{}, {Words: []uint32{4, 7}, Sites: []int{0}}, {Words: mixed(1024)}} {
		for _, base := range wrongBases() {
			for _, mem := range append(wrongMems(), 0, 1, 2, 4095, 4096) {
				machineFails(t, "no base", o, base, mem, api.ErrBase)
			}
		}
	}
}

func TestWrongMemoriesGoAheadOfWhatDoesNotFit(t *testing.T) {
	for _, o := range []api.Obj{{}, {Words: []uint32{4, 7}, Sites: []int{0}}, {Words: mixed(1024)}} {
		for _, base := range []int{0, 4, 8, 12288, 16380, 16384} {
			for _, mem := range wrongMems() {
				machineFails(t, "no memory", o, base, mem, api.ErrBig)
			}
		}
	}
}

// wantError is P12.2 of an object that may be, of size words.
func wantError(size, base, mem int) api.Errno {
	switch {
	case base < 0 || base > 16384 || base&3 != 0:
		return api.ErrBase
	case mem < 0 || mem > 4096:
		return api.ErrBig
	case base/4+size > mem:
		return api.ErrBase
	}
	return api.OK
}

func TestAllSmallSizes(t *testing.T) {
	seen := map[api.Errno]int{}
	for size := range 6 {
		for base := -9; base <= 41; base++ {
			for mem := -3; mem <= 16; mem++ {
				o := api.Obj{Words: []uint32{3, 0, 0, 0, 0}[:size]}
				if size > 0 {
					o.Sites = []int{0}
				}
				want := wantError(size, base, mem)
				seen[want]++
				if want == api.OK {
					isLoaded(t, "small", loaded(t, "small", o, base, mem), o, base, mem)
				} else {
					machineFails(t, "small", o, base, mem, want)
				}
			}
		}
	}
	for _, e := range []api.Errno{api.OK, api.ErrBig, api.ErrBase} {
		if seen[e] < 100 {
			t.Errorf("the error %d was told %d times only", e, seen[e])
		}
	}
}

func TestSizesNearTheGreatest(t *testing.T) {
	for _, size := range []int{0, 1, 2, 1023, 1024} {
		for base := 16384 - 4*1030; base <= 16384+8; base += 2 {
			for _, mem := range []int{4090, 4095, 4096, 4097} {
				o := api.Obj{Words: mixed(size)}
				m, e := Machine(o, base, mem, nil)
				if want := wantError(size, base, mem); e != want || (m == nil) != (want != api.OK) {
					t.Errorf("%d words at %d of %d: %d, want %d", size, base, mem, e, want)
				}
			}
		}
	}
}

// spreadObject is one that may be.
func spreadObject(next func(int) int) api.Obj {
	var o api.Obj
	size := next(12)
	for at := range size {
		if next(3) == 0 {
			o.Words, o.Sites = append(o.Words, uint32(next(4*size+1))), append(o.Sites, at)
		} else {
			o.Words = append(o.Words, uint32(next(65536)*65536+next(65536)))
		}
	}
	name := ""
	for range next(5) {
		name += "abcdefghijklmnopqrstuvwxyz"[next(26):][:1]
		o.Syms = append(o.Syms, sym(name, 4*next(size+1)))
	}
	return o
}

func TestSpreadObjects(t *testing.T) {
	next, seen := spread(), map[api.Errno]int{}
	for range 20000 {
		o, base, mem := spreadObject(next), 2*next(60), next(40)-2
		if next(50) == 0 {
			base, mem = 4*next(4100), 4090+next(8)
		}
		if next(4) != 0 {
			base &= -4
		}
		want := wantError(len(o.Words), base, mem)
		seen[want]++
		if wantError(0, base, 4096) == api.OK {
			imageIs(t, "a spread object", o, base, wantImage(o, base))
		} else {
			imageFails(t, "a spread object", o, base, api.ErrBase)
		}
		if want == api.OK {
			isLoaded(t, "a spread object", loaded(t, "a spread object", o, base, mem), o, base, mem)
		} else {
			machineFails(t, "a spread object", o, base, mem, want)
		}
	}
	for _, e := range []api.Errno{api.OK, api.ErrBig, api.ErrBase} {
		if seen[e] < 100 {
			t.Errorf("the error %d was told %d times only", e, seen[e])
		}
	}
}

// P12.2: machines that run

// The ports' addresses, as numbers that go with a register of 0.
const (
	portIn   = -64
	portOut  = -60
	portHalt = -56
)

func ldw(a, b, imm int) api.Instr {
	return api.Instr{Kind: api.InMem, Op: api.MmLdw, A: a, B: b, Imm: imm}
}

func stw(a, b, imm int) api.Instr {
	return api.Instr{Kind: api.InMem, Op: api.MmStw, A: a, B: b, Imm: imm}
}

func put(a int) api.Instr { return stw(a, 0, portOut) }

func code(t *testing.T, l ...api.Instr) []uint32 {
	t.Helper()
	var all []uint32
	for _, i := range l {
		w, e := isa.Encode(i)
		if e != api.OK {
			t.Fatalf("%+v is no instruction", i)
		}
		all = append(all, w)
	}
	return all
}

// program goes by two addresses of its own, to a number and to a part behind it; it puts out the number, all its inputs up to a 0, and halts.
func program(t *testing.T) api.Obj {
	t.Helper()
	words := code(t,
		ldw(1, 13, 16), // 0
		ldw(2, 1, 0),
		ldw(3, 13, 20),
		api.Instr{Kind: api.InBr, Op: 7, C: 3}, // 12: by the register
	)
	words = append(words, 24, 28, 0x12345678)
	words = append(words, code(t,
		put(2), // 28
		ldw(4, 0, portIn),
		put(4),
		api.Instr{Kind: api.InJmp, Op: 9, Imm: -3}, // 40: if the input is not 0
		stw(1, 0, portHalt),                        // 44
	)...)
	return api.Obj{Words: words, Sites: []int{4, 5}, Syms: []api.Sym{sym("go", 28), sym("number", 24)}}
}

func TestALoadedProgramRunsAnywhere(t *testing.T) {
	o := program(t)
	size := len(o.Words)
	for _, at := range []int{0, 1, 2, 3, 17, 1000, 4096 - size - 1, 4096 - size} {
		for _, mem := range []int{at + size, min(at+size+5, 4096), 4096} {
			m := loaded(t, "a program", o, 4*at, mem, 5, 6)
			if got := m.Run(1000); got != api.Halted {
				t.Errorf("at word %d of %d: it stands at %d, PC %d", at, mem, got, m.PC())
			}
			if got := m.Out(); !slices.Equal(got, []uint32{0x12345678, 5, 6, 0}) {
				t.Errorf("at word %d of %d: put out %X", at, mem, got)
			}
			if m.PC() != uint32(4*(at+size)) {
				t.Errorf("at word %d of %d: PC is %d", at, mem, m.PC())
			}
			want := wantRegs(4*at, mem)
			want.R[1], want.R[2], want.R[3] = uint32(4*at+24), 0x12345678, uint32(4*at+28)
			want.Z = true
			if got := m.Regs(); got != want {
				t.Errorf("at word %d of %d: %+v, want %+v", at, mem, got, want)
			}
		}
	}
}

// R13 and R14 as a program finds them: the memory's last word is below R14, and no word is at it.
func TestAProgramFindsItsMemory(t *testing.T) {
	o := api.Obj{Words: code(t, put(13), put(14), ldw(1, 13, 24), stw(1, 14, -4), put(1), ldw(2, 14, 0))}
	o.Words = append(o.Words, 99)
	for _, c := range []struct{ base, mem int }{{0, 8}, {4, 9}, {400, 200}, {16352, 4096}} {
		m := loaded(t, "a program", o, c.base, c.mem)
		if got := m.Run(100); got != api.TrMem || m.PC() != uint32(c.base+20) {
			t.Errorf("%+v: it stands at %d, PC %d", c, got, m.PC())
		}
		if got := m.Out(); !slices.Equal(got, []uint32{uint32(c.base), uint32(4 * c.mem), 99}) {
			t.Errorf("%+v: put out %d", c, got)
		}
		if got := m.Words()[c.mem-1]; got != 99 {
			t.Errorf("%+v: the last word is %d", c, got)
		}
	}
}

// An object of nothing is run, too: what is at its base is a word of the memory, or none.
func TestAnObjectOfNothingRuns(t *testing.T) {
	m := loaded(t, "nothing", api.Obj{}, 4, 2)
	if got := m.Step(); got != api.Running || m.PC() != 8 {
		t.Errorf("the word 0: it stands at %d, PC %d", got, m.PC())
	}
	if got := m.Step(); got != api.TrMem || m.PC() != 8 {
		t.Errorf("no word: it stands at %d, PC %d", got, m.PC())
	}
	m = loaded(t, "nothing", api.Obj{}, 8, 2)
	if got := m.Step(); got != api.TrMem || m.PC() != 8 {
		t.Errorf("at the end: it stands at %d, PC %d", got, m.PC())
	}
}

// echo puts out its inputs for ever.
func echo(t *testing.T) api.Obj {
	t.Helper()
	return api.Obj{Words: code(t, ldw(1, 0, portIn), put(1), api.Instr{Kind: api.InJmp, Op: 7, Imm: -3})}
}

func TestInputsOfAMachine(t *testing.T) {
	for _, c := range []struct{ in, out []uint32 }{
		{nil, []uint32{0, 0, 0, 0}},
		{[]uint32{}, []uint32{0, 0, 0, 0}},
		{[]uint32{7}, []uint32{7, 0, 0, 0}},
		{[]uint32{0, 7, 0xFFFFFFFF}, []uint32{0, 7, 0xFFFFFFFF, 0}},
		{[]uint32{4, 3, 2, 1, 9}, []uint32{4, 3, 2, 1}},
	} {
		m := loaded(t, "echo", echo(t), 8, 10, c.in...)
		m.Run(12)
		if got := m.Out(); !slices.Equal(got, c.out) {
			t.Errorf("the inputs %d: put out %d", c.in, got)
		}
	}
	in := mixed(100000)
	m := loaded(t, "echo", echo(t), 0, 3, in...)
	m.Run(300000)
	if got := m.Out(); !slices.Equal(got, in) {
		t.Errorf("of %d inputs %d were put out", len(in), len(got))
	}
}

// R6 and R7

// wholeLists shows an object and the room behind its lists.
func wholeLists(o api.Obj) string {
	return fmt.Sprintf("%#v %#v %#v", o.Words[:cap(o.Words)], o.Sites[:cap(o.Sites)], o.Syms[:cap(o.Syms)])
}

// roomy is o with room behind its lists, which is the caller's too.
func roomy(o api.Obj) api.Obj {
	l, s, n := append(copied(o).Words, 77, 78), append(copied(o).Sites, 55, 56), append(copied(o).Syms, sym("q", 3), sym("", 1))
	return api.Obj{Words: l[:len(o.Words)], Sites: s[:len(o.Sites)], Syms: n[:len(o.Syms)]}
}

func TestWhatIsHandedInIsLeft(t *testing.T) {
	objects := greatObjects()
	for _, c := range loadCases() {
		objects = append(objects, c.o)
	}
	for _, c := range wrongObjects() {
		objects = append(objects, c.o)
	}
	for _, o := range objects {
		o = roomy(o)
		before := wholeLists(o)
		for _, base := range []int{4, 5, 16384} {
			in := []uint32{1, 2, 3, 4}
			Image(o, base)
			Machine(o, base, 4096, in[:2])
			Machine(o, base, -1, in[:2])
			Machine(o, base, 2, in[:2])
			if after := wholeLists(o); after != before {
				t.Errorf("the object became %.300s, want %.300s", after, before)
			}
			if !slices.Equal(in, []uint32{1, 2, 3, 4}) {
				t.Errorf("the inputs became %d", in)
			}
		}
	}
}

// spoil writes over all of l, and over the room behind it.
func spoil[T any](l []T, x T) {
	l = l[:cap(l)]
	for n := range l {
		l[n] = x
	}
}

func spoilObject(o api.Obj) {
	spoil(o.Words, 77)
	spoil(o.Sites, 77)
	spoil(o.Syms, sym("spoilt", 77))
}

func TestImagesAreTheCallersOwn(t *testing.T) {
	for _, c := range loadCases() {
		o := roomy(c.o)
		before := wholeLists(o)
		first, _ := Image(o, c.base)
		second, _ := Image(o, c.base)
		spoil(first, 77)
		if after := wholeLists(o); after != before {
			t.Errorf("%s: an image is the object's: %.300s", c.name, after)
		}
		if !slices.Equal(second, c.image) {
			t.Errorf("%s: two images are one: %X", c.name, second)
		}
		imageIs(t, c.name+", once more", o, c.base, c.image)
		spoilObject(o)
		if !slices.Equal(second, c.image) {
			t.Errorf("%s: an image hangs on the object: %X", c.name, second)
		}
	}
}

func TestAMachineKeepsItsOwn(t *testing.T) {
	o, in := program(t), []uint32{5, 6}
	before := wholeLists(o)
	m := loaded(t, "a program", o, 40, 100, in...)
	other := loaded(t, "a program", o, 40, 100, in...)
	// A machine that stores on all of its memory leaves the object, and the other machine.
	if e := other.Place(0, make([]uint32, 100)); e != api.OK {
		t.Fatal(e)
	}
	spoil(other.Words(), 77)
	if after := wholeLists(o); after != before {
		t.Errorf("the object became %.300s", after)
	}
	isLoaded(t, "beside another one", m, o, 40, 100)
	spoilObject(o)
	spoil(in, 77)
	spoil(m.Words(), 77)
	if got := m.Run(1000); got != api.Halted || !slices.Equal(m.Out(), []uint32{0x12345678, 5, 6, 0}) {
		t.Errorf("behind spoilt lists: %d, %X", got, m.Out())
	}
}

func TestMachinesDoNotHangOnEachOther(t *testing.T) {
	o := program(t)
	a, b := loaded(t, "a", o, 0, 50, 5), loaded(t, "b", o, 100, 60, 8, 9)
	for range 100 {
		a.Step()
		b.Step()
	}
	if !slices.Equal(a.Out(), []uint32{0x12345678, 5, 0}) || !slices.Equal(b.Out(), []uint32{0x12345678, 8, 9, 0}) {
		t.Errorf("put out %X and %X", a.Out(), b.Out())
	}
	// Started again, it is as any other machine: the inputs and the memory stay.
	a.Start(0, Regs(0, 50))
	a.Run(100)
	if got := a.Out(); !slices.Equal(got, []uint32{0x12345678, 5, 0, 0x12345678, 0}) {
		t.Errorf("once more, put out %X", got)
	}
}

func TestCallsDoNotHangOnEachOther(t *testing.T) {
	cases := loadCases()
	for n, w := range wrongObjects() {
		imageFails(t, w.name, w.o, 8, w.want)
		machineFails(t, w.name, w.o, 8, 100, w.want)
		c := cases[n%len(cases)]
		imageIs(t, c.name+", behind "+w.name, c.o, c.base, c.image)
		imageIs(t, c.name+", once more", c.o, c.base, c.image)
		imageFails(t, c.name, c.o, 2, api.ErrBase)
		if mem := c.base/4 + len(c.o.Words); mem <= 4096 {
			isLoaded(t, c.name, loaded(t, c.name, c.o, c.base, mem), c.o, c.base, mem)
		}
	}
	o := api.Obj{Words: []uint32{4, 7, 8}, Sites: []int{0, 2}}
	for _, base := range []int{16384, 0, 8, 0, 16380, 4, 8} {
		imageIs(t, "one object at one base behind another", o, base, []uint32{uint32(4 + base), 7, uint32(8 + base)})
	}
}

// P12.1 by T4: at two bases the words differ by as much as these, where there are sites, and nowhere else.
func TestImagesAtTwoBases(t *testing.T) {
	next := spread()
	for range 20000 {
		o, one, two := spreadObject(next), 4*next(4097), 4*next(4097)
		a, _ := Image(o, one)
		b, _ := Image(o, two)
		for at := range o.Words {
			want := uint32(0)
			if slices.Contains(o.Sites, at) {
				want = uint32(two) - uint32(one)
			}
			if b[at]-a[at] != want {
				t.Errorf("word %d of %s at %d and %d: %X, %X", at, shown(o), one, two, a[at], b[at])
			}
		}
	}
}
