package isa

import (
	"math"
	"strings"
	"testing"

	"rivet/api"
)

// row is one line of what the chapter says, with nothing of the program in it: which instructions may be, and the bits of their words from the highest on.
// The letters are a, b, c for the registers, o for Op and i for Imm (its sign first); what has no letter is 0, and U is as u says.
type row struct {
	kind, firstOp, lastOp int
	u                     bool
	least, most           int
	bits                  string
}

var rows = []row{
	{api.InReg, api.OpMov, api.OpMov, false, 0, 0, "0000aaaa0000oooo000000000000cccc"},
	{api.InReg, api.OpLsl, api.OpDiv, false, 0, 0, "0000aaaabbbboooo000000000000cccc"},
	{api.InReg, api.OpAdd, api.OpMul, true, 0, 0, "0010aaaabbbboooo000000000000cccc"},
	{api.InHi, 0, 0, false, 0, 0, "0010aaaa000000000000000000000000"},
	{api.InFl, 0, 0, false, 0, 0, "0011aaaa000000000000000000000000"},
	{api.InImm, api.OpMov, api.OpMov, false, -65536, 65535, "010iaaaa0000ooooiiiiiiiiiiiiiiii"},
	{api.InImm, api.OpMov, api.OpMov, true, 0, 65535, "011iaaaa0000ooooiiiiiiiiiiiiiiii"},
	{api.InImm, api.OpLsl, api.OpDiv, false, -65536, 65535, "010iaaaabbbbooooiiiiiiiiiiiiiiii"},
	{api.InImm, api.OpAdd, api.OpMul, true, -65536, 65535, "011iaaaabbbbooooiiiiiiiiiiiiiiii"},
	{api.InMem, api.MmLdw, api.MmStb, false, -524288, 524287, "10ooaaaabbbbiiiiiiiiiiiiiiiiiiii"},
	{api.InBr, 0, 15, false, 0, 0, "1100oooo00000000000000000000cccc"},
	{api.InBr, 0, 15, true, 0, 0, "1101oooo00000000000000000000cccc"},
	{api.InJmp, 0, 15, false, -8388608, 8388607, "1110ooooiiiiiiiiiiiiiiiiiiiiiiii"},
	{api.InJmp, 0, 15, true, -8388608, 8388607, "1111ooooiiiiiiiiiiiiiiiiiiiiiiii"},
}

func (r row) has(letter string) bool { return strings.Contains(r.bits, letter) }

// takes tells whether a register may be in the row: one that has no letter is 0.
func (r row) takes(letter string, reg int) bool {
	return reg == 0 || r.has(letter) && 0 < reg && reg < 16
}

func (r row) may(i api.Instr) bool {
	return i.Kind == r.kind && r.firstOp <= i.Op && i.Op <= r.lastOp && i.U == r.u && r.least <= i.Imm && i.Imm <= r.most &&
		r.takes("a", i.A) && r.takes("b", i.B) && r.takes("c", i.C)
}

// word writes the numbers of i over the letters, from the lowest bit on.
func (r row) word(i api.Instr) uint32 {
	left := map[byte]int{'a': i.A, 'b': i.B, 'c': i.C, 'o': i.Op, 'i': i.Imm}
	var w uint32
	for at := range 32 {
		letter := r.bits[31-at]
		set := letter == '1'
		if x, is := left[letter]; is {
			set = x&1 == 1
			left[letter] = x >> 1
		}
		if set {
			w |= 1 << at
		}
	}
	return w
}

// instr reads the letters from w, if its other bits are those of the row.
func (r row) instr(w uint32) (api.Instr, bool) {
	got := map[byte]int{}
	for at := 31; at >= 0; at-- {
		letter, x := r.bits[31-at], int(w>>at&1)
		if letter <= '1' {
			if x != int(letter-'0') {
				return api.Instr{}, false
			}
			continue
		}
		if _, begun := got[letter]; !begun && letter == 'i' {
			x = -x
		}
		got[letter] = got[letter]*2 + x
	}
	i := api.Instr{Kind: r.kind, Op: got['o'], A: got['a'], B: got['b'], C: got['c'], Imm: got['i'], U: r.u}
	return i, r.may(i)
}

func wantMay(i api.Instr) (row, bool) {
	for _, r := range rows {
		if r.may(i) {
			return r, true
		}
	}
	return row{}, false
}

func wantDecode(w uint32) (api.Instr, bool) {
	for _, r := range rows {
		if i, ok := r.instr(w); ok {
			return i, true
		}
	}
	return api.Instr{}, false
}

// numbers are those around the ends of each kind's bounds, and those that are 0 or in bounds once they are cut to fewer bits.
func numbers() []int {
	all := []int{0, 1, -1, 2, -2, 5, 12345, -12345, math.MinInt, math.MaxInt, math.MinInt + 1, math.MaxInt - 1}
	for _, n := range []int{4, 8, 15, 16, 17, 19, 20, 23, 24, 31, 32, 33, 62} {
		for d := -1; d <= 1; d++ {
			all = append(all, 1<<n+d, -1<<n+d)
		}
	}
	return all
}

var (
	kinds = []int{math.MinInt, -1, 0, 1, 2, 3, 4, 5, 6, 7, 8, 9, 10, 257, 1<<32 + 1, math.MaxInt}
	ops   = []int{math.MinInt, -16, -1, 0, 1, 2, 3, 4, 5, 6, 7, 8, 9, 10, 11, 12, 13, 14, 15, 16, 24, 1 << 32, math.MaxInt}
	regs  = []int{-1, 0, 1, 9, 15, 16}
	flags = []bool{false, true}
)

// all hands over each instruction of these kinds, operations, registers and numbers.
func all(kinds, ops, regs, numbers []int, do func(api.Instr)) {
	for _, kind := range kinds {
		for _, op := range ops {
			for _, a := range regs {
				for _, b := range regs {
					for _, c := range regs {
						for _, n := range numbers {
							for _, u := range flags {
								do(api.Instr{Kind: kind, Op: op, A: a, B: b, C: c, Imm: n, U: u})
							}
						}
					}
				}
			}
		}
	}
}

// A bit too few in a row would move all those below it, and be told as the program's fault.
func TestRowsAreWhole(t *testing.T) {
	for _, r := range rows {
		if len(r.bits) != 32 {
			t.Errorf("%q has %d bits", r.bits, len(r.bits))
		}
	}
}

// P3.1

func TestMayOfNamedInstructions(t *testing.T) {
	for _, c := range []struct {
		name string
		i    api.Instr
		may  bool
	}{
		{"nothing", api.Instr{}, false},
		{"kind 0 with a register", api.Instr{A: 1}, false},
		{"a kind below 1", api.Instr{Kind: -1}, false},
		{"a kind above 7", api.Instr{Kind: 8}, false},
		{"a statement's kind", api.Instr{Kind: api.StExport}, false},

		{"a register moved", api.Instr{Kind: api.InReg}, true},
		{"a register moved, 15", api.Instr{Kind: api.InReg, A: 15, C: 15}, true},
		{"a register moved, with B", api.Instr{Kind: api.InReg, A: 1, B: 1, C: 1}, false},
		{"a register moved, with U", api.Instr{Kind: api.InReg, A: 1, C: 1, U: true}, false},
		{"a register moved, with a number", api.Instr{Kind: api.InReg, A: 1, C: 1, Imm: 1}, false},
		{"the first operation", api.Instr{Kind: api.InReg, Op: api.OpLsl, A: 15, B: 15, C: 15}, true},
		{"the last operation", api.Instr{Kind: api.InReg, Op: api.OpDiv, B: 15}, true},
		{"above the last operation", api.Instr{Kind: api.InReg, Op: 12}, false},
		{"below the first operation", api.Instr{Kind: api.InReg, Op: -1}, false},
		{"A above 15", api.Instr{Kind: api.InReg, Op: api.OpAdd, A: 16}, false},
		{"B above 15", api.Instr{Kind: api.InReg, Op: api.OpAdd, B: 16}, false},
		{"C above 15", api.Instr{Kind: api.InReg, Op: api.OpAdd, C: 16}, false},
		{"A below 0", api.Instr{Kind: api.InReg, Op: api.OpAdd, A: -1}, false},
		{"B below 0", api.Instr{Kind: api.InReg, Op: api.OpAdd, B: -1}, false},
		{"C below 0", api.Instr{Kind: api.InReg, Op: api.OpAdd, C: -1}, false},

		{"the least number", api.Instr{Kind: api.InImm, Op: api.OpXor, Imm: -65536}, true},
		{"the greatest number", api.Instr{Kind: api.InImm, Op: api.OpXor, Imm: 65535}, true},
		{"below the least number", api.Instr{Kind: api.InImm, Op: api.OpXor, Imm: -65537}, false},
		{"above the greatest number", api.Instr{Kind: api.InImm, Op: api.OpXor, Imm: 65536}, false},
		{"a number with C", api.Instr{Kind: api.InImm, Op: api.OpXor, C: 1}, false},
		{"a number moved, the least", api.Instr{Kind: api.InImm, A: 1, Imm: -65536}, true},
		{"a number moved, with B", api.Instr{Kind: api.InImm, A: 1, B: 2}, false},
		{"a number moved up, the least", api.Instr{Kind: api.InImm, A: 1, U: true}, true},
		{"a number moved up, the greatest", api.Instr{Kind: api.InImm, A: 1, Imm: 65535, U: true}, true},
		{"a number moved up, below 0", api.Instr{Kind: api.InImm, A: 1, Imm: -1, U: true}, false},
		{"a number moved up, too great", api.Instr{Kind: api.InImm, A: 1, Imm: 65536, U: true}, false},
		{"a number moved up, with B", api.Instr{Kind: api.InImm, A: 1, B: 2, U: true}, false},
		{"with the carry, below 0", api.Instr{Kind: api.InImm, Op: api.OpSub, Imm: -65536, U: true}, true},

		{"H", api.Instr{Kind: api.InHi, A: 15}, true},
		{"H into no register", api.Instr{Kind: api.InHi, A: 16}, false},
		{"H with Op", api.Instr{Kind: api.InHi, Op: 1}, false},
		{"H with B", api.Instr{Kind: api.InHi, B: 1}, false},
		{"H with C", api.Instr{Kind: api.InHi, C: 1}, false},
		{"H with a number", api.Instr{Kind: api.InHi, Imm: 1}, false},
		{"H with U", api.Instr{Kind: api.InHi, U: true}, false},
		{"the flags", api.Instr{Kind: api.InFl}, true},
		{"the flags into no register", api.Instr{Kind: api.InFl, A: -1}, false},
		{"the flags with U", api.Instr{Kind: api.InFl, U: true}, false},

		{"the least place", api.Instr{Kind: api.InMem, Op: api.MmStb, A: 15, B: 15, Imm: -524288}, true},
		{"the greatest place", api.Instr{Kind: api.InMem, Imm: 524287}, true},
		{"below the least place", api.Instr{Kind: api.InMem, Imm: -524289}, false},
		{"above the greatest place", api.Instr{Kind: api.InMem, Imm: 524288}, false},
		{"a move above the last", api.Instr{Kind: api.InMem, Op: 4}, false},
		{"a move below the first", api.Instr{Kind: api.InMem, Op: -1}, false},
		{"a move with C", api.Instr{Kind: api.InMem, C: 1}, false},
		{"a move with U", api.Instr{Kind: api.InMem, U: true}, false},

		{"a branch", api.Instr{Kind: api.InBr, Op: 15, C: 15, U: true}, true},
		{"a branch without a link", api.Instr{Kind: api.InBr}, true},
		{"a condition above 15", api.Instr{Kind: api.InBr, Op: 16}, false},
		{"a condition below 0", api.Instr{Kind: api.InBr, Op: -1}, false},
		{"a branch with A", api.Instr{Kind: api.InBr, A: 1}, false},
		{"a branch with B", api.Instr{Kind: api.InBr, B: 1}, false},
		{"a branch with a number", api.Instr{Kind: api.InBr, Imm: 1}, false},
		{"a branch to no register", api.Instr{Kind: api.InBr, C: 16}, false},

		{"the farthest back", api.Instr{Kind: api.InJmp, Op: 15, Imm: -8388608, U: true}, true},
		{"the farthest on", api.Instr{Kind: api.InJmp, Imm: 8388607}, true},
		{"too far back", api.Instr{Kind: api.InJmp, Imm: -8388609}, false},
		{"too far on", api.Instr{Kind: api.InJmp, Imm: 8388608}, false},
		{"a jump's condition above 15", api.Instr{Kind: api.InJmp, Op: 16}, false},
		{"a jump with A", api.Instr{Kind: api.InJmp, A: 1}, false},
		{"a jump with B", api.Instr{Kind: api.InJmp, B: 1}, false},
		{"a jump with C", api.Instr{Kind: api.InJmp, C: 1}, false},
	} {
		if May(c.i) != c.may {
			t.Errorf("%s: May(%+v) is %v", c.name, c.i, !c.may)
		}
	}
}

func TestWhichOperationsMayHaveU(t *testing.T) {
	for op := api.OpMov; op <= api.OpDiv; op++ {
		carry := op == api.OpAdd || op == api.OpSub || op == api.OpMul
		if i := (api.Instr{Kind: api.InReg, Op: op, U: true}); May(i) != carry {
			t.Errorf("May(%+v) is %v", i, !carry)
		}
		if i := (api.Instr{Kind: api.InImm, Op: op, U: true}); May(i) != (carry || op == api.OpMov) {
			t.Errorf("May(%+v) is %v", i, May(i))
		}
	}
}

// P3.1 and P3.2

func TestMayAndEncodeOfAllEdges(t *testing.T) {
	all(kinds, ops, regs, numbers(), func(i api.Instr) {
		r, may := wantMay(i)
		if May(i) != may {
			t.Errorf("May(%+v) is %v", i, !may)
		}
		w, err := Encode(i)
		if !may && (w != 0 || err != api.ErrArg) {
			t.Errorf("Encode(%+v) is %08X, %d: it may not be", i, w, err)
		}
		if may && (w != r.word(i) || err != api.OK) {
			t.Errorf("Encode(%+v) is %08X, %d: want %08X", i, w, err, r.word(i))
		}
	})
}

// P3.2

// TestFieldsOfEachKind sets what a kind names one after the other, so that a field out of its place cannot hide behind another.
func TestFieldsOfEachKind(t *testing.T) {
	for _, c := range []struct {
		i api.Instr
		w uint32
	}{
		{api.Instr{Kind: api.InReg}, 0x00000000},
		{api.Instr{Kind: api.InReg, A: 15}, 0x0F000000},
		{api.Instr{Kind: api.InReg, C: 15}, 0x0000000F},
		{api.Instr{Kind: api.InReg, Op: api.OpDiv}, 0x000B0000},
		{api.Instr{Kind: api.InReg, Op: api.OpLsl, B: 15}, 0x00F10000},
		{api.Instr{Kind: api.InReg, Op: api.OpAdd, U: true}, 0x20080000},
		{api.Instr{Kind: api.InHi}, 0x20000000},
		{api.Instr{Kind: api.InHi, A: 15}, 0x2F000000},
		{api.Instr{Kind: api.InFl}, 0x30000000},
		{api.Instr{Kind: api.InFl, A: 15}, 0x3F000000},
		{api.Instr{Kind: api.InImm}, 0x40000000},
		{api.Instr{Kind: api.InImm, A: 15}, 0x4F000000},
		{api.Instr{Kind: api.InImm, U: true}, 0x60000000},
		{api.Instr{Kind: api.InImm, Imm: 65535}, 0x4000FFFF},
		{api.Instr{Kind: api.InImm, Imm: -65536}, 0x50000000},
		{api.Instr{Kind: api.InImm, Imm: -1}, 0x5000FFFF},
		{api.Instr{Kind: api.InImm, Op: api.OpDiv}, 0x400B0000},
		{api.Instr{Kind: api.InImm, Op: api.OpLsl, B: 15}, 0x40F10000},
		{api.Instr{Kind: api.InImm, Op: api.OpAdd, A: 1, B: 2, Imm: -1}, 0x5128FFFF},
		{api.Instr{Kind: api.InMem, Op: api.MmLdw}, 0x80000000},
		{api.Instr{Kind: api.InMem, Op: api.MmLdb}, 0x90000000},
		{api.Instr{Kind: api.InMem, Op: api.MmStw}, 0xA0000000},
		{api.Instr{Kind: api.InMem, Op: api.MmStb}, 0xB0000000},
		{api.Instr{Kind: api.InMem, A: 15}, 0x8F000000},
		{api.Instr{Kind: api.InMem, B: 15}, 0x80F00000},
		{api.Instr{Kind: api.InMem, Imm: -1}, 0x800FFFFF},
		{api.Instr{Kind: api.InMem, Imm: 524287}, 0x8007FFFF},
		{api.Instr{Kind: api.InMem, Imm: -524288}, 0x80080000},
		{api.Instr{Kind: api.InBr}, 0xC0000000},
		{api.Instr{Kind: api.InBr, Op: 15}, 0xCF000000},
		{api.Instr{Kind: api.InBr, C: 15}, 0xC000000F},
		{api.Instr{Kind: api.InBr, U: true}, 0xD0000000},
		{api.Instr{Kind: api.InJmp}, 0xE0000000},
		{api.Instr{Kind: api.InJmp, Op: 15}, 0xEF000000},
		{api.Instr{Kind: api.InJmp, U: true}, 0xF0000000},
		{api.Instr{Kind: api.InJmp, Op: 7, Imm: -1}, 0xE7FFFFFF},
		{api.Instr{Kind: api.InJmp, Imm: 8388607}, 0xE07FFFFF},
		{api.Instr{Kind: api.InJmp, Imm: -8388608}, 0xE0800000},
	} {
		if w, err := Encode(c.i); w != c.w || err != api.OK {
			t.Errorf("Encode(%+v) is %08X, %d: want %08X", c.i, w, err, c.w)
		}
		if i, ok := Decode(c.w); i != c.i || !ok {
			t.Errorf("Decode(%08X) is %+v, %v: want %+v", c.w, i, ok, c.i)
		}
	}
}

// P3.3

func checkDecode(t *testing.T, w uint32) {
	i, ok := Decode(w)
	want, is := wantDecode(w)
	if i != want || ok != is {
		t.Errorf("Decode(%08X) is %+v, %v: want %+v, %v", w, i, ok, want, is)
	}
}

func TestDecodeOfWordsThatAreNone(t *testing.T) {
	for name, words := range map[string][]uint32{
		"operations 12 to 15":         {0x000C0000, 0x000D0000, 0x000E0000, 0x000F0000, 0x200C0000, 0x200F0000, 0x400C0000, 0x400D0000, 0x400E0000, 0x400F0000, 0x600F0000},
		"a bit of no field, InReg":    {0x00000010, 0x00008000, 0x10000000, 0x10080000, 0x30080000, 0x00280010, 0x00288000},
		"a bit of no field, InHi":     {0x20000001, 0x20000008, 0x20000010, 0x20008000, 0x20100000, 0x20800000},
		"a bit of no field, InFl":     {0x30000001, 0x30000008, 0x30000010, 0x30008000, 0x30100000, 0x30800000},
		"a bit of no field, InBr":     {0xC0000010, 0xC0008000, 0xC0010000, 0xC0080000, 0xC0100000, 0xC0800000, 0xD0000010},
		"a carry where none may be":   {0x20010000, 0x20020000, 0x20030000, 0x20040000, 0x20050000, 0x20060000, 0x20070000, 0x200B0000, 0x60010000, 0x60020000, 0x60030000, 0x60040000, 0x60050000, 0x60060000, 0x60070000, 0x600B0000},
		"a register ahead of a move":  {0x00100000, 0x01F00002, 0x40100000, 0x41F00005, 0x60100000, 0x50100000},
		"moved up, but with its sign": {0x70000000, 0x70000001, 0x7000FFFF, 0x7F00FFFF},
	} {
		for _, w := range words {
			if i, ok := Decode(w); i != (api.Instr{}) || ok {
				t.Errorf("%s: Decode(%08X) is %+v, %v", name, w, i, ok)
			}
		}
	}
}

// TestDecodeOfAllUpperHalves has each upper half of a word, with lower halves that have each of their bits alone, and some together.
func TestDecodeOfAllUpperHalves(t *testing.T) {
	lower := []uint32{0, 0xF, 0x5A5A, 0x7FFF, 0xFFF0, 0xFFFF}
	for at := range 16 {
		lower = append(lower, 1<<at)
	}
	for upper := range uint32(1 << 16) {
		for _, l := range lower {
			checkDecode(t, upper<<16|l)
		}
	}
}

func TestDecodeOfSpreadWords(t *testing.T) {
	w := uint32(2463534242)
	for range 200000 {
		w ^= w << 13
		w ^= w >> 17
		w ^= w << 5
		checkDecode(t, w)
		// Words of the shorter forms are rare among all: most of their bits are 0.
		checkDecode(t, w&0x3FFF000F)
		checkDecode(t, w&0x3FFFFFFF&^0xFFE0)
		checkDecode(t, w&0x1F00000F|0xC0000000)
	}
}

// P3.4

func TestUnlikeInstructionsHaveUnlikeWords(t *testing.T) {
	of := map[uint32]api.Instr{}
	inBounds := []int{0, 1, 2, 4, 8, 15}
	all([]int{1, 2, 3, 4, 5, 6, 7}, ops, inBounds, numbers(), func(i api.Instr) {
		w, err := Encode(i)
		if err != api.OK {
			return
		}
		if other, is := of[w]; is && other != i {
			t.Errorf("%+v and %+v have the same word %08X", i, other, w)
		}
		of[w] = i
	})
	for w, i := range of {
		if back, ok := Decode(w); back != i || !ok {
			t.Errorf("Decode(%08X) is %+v, %v: it is the word of %+v", w, back, ok, i)
		}
	}
	if len(of) < 10000 {
		t.Errorf("only %d instructions of those tried may be", len(of))
	}
}
