package alu

import (
	"math"
	"math/big"
	"testing"

	"rivet/api"
	"rivet/isa"
)

var edges = []uint32{
	0, 1, 2, 7, 31, 32, 33, 0xFFFF, 0x10000, 0x12345678, 0x55555555,
	0x7FFFFFFE, 0x7FFFFFFF, 0x80000000, 0x80000001, 0xABCD1234, 0xFFFF0000, 0xFFFFFFF9, 0xFFFFFFFE, 0xFFFFFFFF,
}

var numbers = []int{0, 1, 2, 3, 7, 16, 31, 32, 33, 100, 0x5A5A, 32767, 32768, 65534, 65535, -1, -2, -7, -31, -32, -32768, -32769, -65535, -65536}

var bools = []bool{false, true}

// spread are words that a fixed rule spreads over all of them.
func spread(many int) []uint32 {
	var all []uint32
	x := uint32(2463534242)
	for range many {
		x ^= x << 13
		x ^= x >> 17
		x ^= x << 5
		all = append(all, x)
	}
	return all
}

// full are registers of which no two are the same, with the flags as the lowest four bits of nzcv say.
func full(nzcv int) api.Regs {
	s := api.Regs{H: 0xBEEF0000, N: nzcv&8 != 0, Z: nzcv&4 != 0, C: nzcv&2 != 0, V: nzcv&1 != 0}
	for at := range s.R {
		s.R[at] = 0x11111111*uint32(at) + 3
	}
	return s
}

// with are full registers, but that R1 is b and R2 is n.
func with(nzcv int, b, n uint32) api.Regs {
	s := full(nzcv)
	s.R[1], s.R[2] = b, n
	return s
}

func check(t *testing.T, name string, s api.Regs, i api.Instr, want api.Regs, trap int) {
	t.Helper()
	before := s
	if got, how := Do(s, i); got != want || how != trap {
		t.Errorf("%s: Do(%+v, %+v) is %+v, %d: want %+v, %d", name, s, i, got, how, want, trap)
	}
	if s != before {
		t.Errorf("%s: Do(%+v, %+v) changed what was handed in: %+v", name, before, i, s)
	}
}

// P4.1

func TestShowOfNamedWords(t *testing.T) {
	for _, c := range []struct {
		x    uint32
		n, z bool
	}{
		{0, false, true},
		{1, false, false},
		{0x7FFFFFFF, false, false},
		{0x80000000, true, false},
		{0x80000001, true, false},
		{0xFFFFFFFF, true, false},
		{0x40000000, false, false},
		{0x10000, false, false},
	} {
		for nzcv := range 16 {
			s := full(nzcv)
			want := s
			want.N, want.Z = c.n, c.z
			if got := Show(s, c.x); got != want {
				t.Errorf("Show(%+v, %#x) is %+v", s, c.x, got)
			}
		}
	}
}

func TestShowOfEachBitAlone(t *testing.T) {
	for at := range 32 {
		for nzcv := range 16 {
			s := full(nzcv)
			want := s
			want.N, want.Z = at == 31, false
			if got := Show(s, 1<<at); got != want {
				t.Errorf("Show(%+v, bit %d) is %+v", s, at, got)
			}
		}
	}
}

// P4.2

// TestDoOfNamedOperations has what comes of each row written out: R3 is what came of R1 and of R2 or the number, h, c and v are H, C and V then (H is 9 first), and noReg says that it may be of a number alone.
func TestDoOfNamedOperations(t *testing.T) {
	const off, on = 0, 2 // C as it was
	for _, c := range []struct {
		name  string
		op    int
		u     bool
		nzcv  int
		b     uint32
		n     int
		r, h  uint32
		c, v  bool
		noReg bool
	}{
		{name: "mov", op: api.OpMov, n: 5, r: 5, h: 9},
		{name: "mov of 0", op: api.OpMov, nzcv: 15, n: 0, r: 0, h: 9, c: true, v: true},
		{name: "mov below 0", op: api.OpMov, n: -3, r: 0xFFFFFFFD, h: 9},
		{name: "mov of the least", op: api.OpMov, n: -65536, r: 0xFFFF0000, h: 9},
		{name: "mov of the greatest", op: api.OpMov, n: 65535, r: 0xFFFF, h: 9},
		{name: "mov up", op: api.OpMov, u: true, n: 0x1234, r: 0x12340000, h: 9, noReg: true},
		{name: "mov up of 0", op: api.OpMov, u: true, n: 0, r: 0, h: 9, noReg: true},
		{name: "mov up of the greatest", op: api.OpMov, u: true, nzcv: 3, n: 65535, r: 0xFFFF0000, h: 9, c: true, v: true, noReg: true},
		{name: "mov up to the highest bit", op: api.OpMov, u: true, n: 32768, r: 0x80000000, h: 9, noReg: true},

		{name: "lsl", op: api.OpLsl, b: 3, n: 4, r: 48, h: 9},
		{name: "lsl by 31", op: api.OpLsl, nzcv: 3, b: 3, n: 31, r: 0x80000000, h: 9, c: true, v: true},
		{name: "lsl by 32", op: api.OpLsl, b: 3, n: 32, r: 3, h: 9},
		{name: "lsl by -1", op: api.OpLsl, b: 3, n: -1, r: 0x80000000, h: 9},
		{name: "asr", op: api.OpAsr, b: 0xFFFFFFFB, n: 1, r: 0xFFFFFFFD, h: 9},
		{name: "asr above 0", op: api.OpAsr, b: 0x7FFFFFFF, n: 30, r: 1, h: 9},
		{name: "asr to 0", op: api.OpAsr, b: 0x7FFFFFFF, n: 31, r: 0, h: 9},
		{name: "ror", op: api.OpRor, b: 0x12345678, n: 8, r: 0x78123456, h: 9},
		{name: "ror by 33", op: api.OpRor, b: 1, n: 33, r: 0x80000000, h: 9},

		{name: "and", op: api.OpAnd, b: 12, n: 10, r: 8, h: 9},
		{name: "and below 0", op: api.OpAnd, b: 0xABCD1234, n: -65536, r: 0xABCD0000, h: 9},
		{name: "ann", op: api.OpAnn, b: 12, n: 10, r: 4, h: 9},
		{name: "ann below 0", op: api.OpAnn, b: 0xABCD1234, n: -65536, r: 0x1234, h: 9},
		{name: "ior", op: api.OpIor, b: 12, n: 10, r: 14, h: 9},
		{name: "ior below 0", op: api.OpIor, b: 0x1234, n: -65536, r: 0xFFFF1234, h: 9},
		{name: "xor", op: api.OpXor, b: 12, n: 10, r: 6, h: 9},
		{name: "xor of the same", op: api.OpXor, nzcv: 3, b: 10, n: 10, r: 0, h: 9, c: true, v: true},

		{name: "add", op: api.OpAdd, b: 7, n: 9, r: 16, h: 9},
		{name: "add clears C and V", op: api.OpAdd, nzcv: 15, b: 7, n: 9, r: 16, h: 9},
		{name: "add to C", op: api.OpAdd, b: 0xFFFFFFFF, n: 1, r: 0, h: 9, c: true},
		{name: "add to V", op: api.OpAdd, b: 0x7FFFFFFF, n: 1, r: 0x80000000, h: 9, v: true},
		{name: "add to both", op: api.OpAdd, b: 0x80000000, n: -1, r: 0x7FFFFFFF, h: 9, c: true, v: true},
		{name: "add with U, C not set", op: api.OpAdd, u: true, nzcv: off, b: 7, n: 9, r: 16, h: 9},
		{name: "add with U, C set", op: api.OpAdd, u: true, nzcv: on, b: 7, n: 9, r: 17, h: 9},
		{name: "add without U, C set", op: api.OpAdd, nzcv: on, b: 0xFFFFFFFE, n: 1, r: 0xFFFFFFFF, h: 9},
		{name: "add with U to C", op: api.OpAdd, u: true, nzcv: on, b: 0xFFFFFFFE, n: 1, r: 0, h: 9, c: true},
		{name: "add with U to V", op: api.OpAdd, u: true, nzcv: on, b: 0x7FFFFFFE, n: 1, r: 0x80000000, h: 9, v: true},
		{name: "add with U, not V", op: api.OpAdd, u: true, nzcv: off, b: 0x7FFFFFFE, n: 1, r: 0x7FFFFFFF, h: 9},

		{name: "sub", op: api.OpSub, b: 9, n: 7, r: 2, h: 9},
		{name: "sub, the document's example", op: api.OpSub, b: 7, n: 9, r: 0xFFFFFFFE, h: 9, c: true},
		{name: "sub clears C and V", op: api.OpSub, nzcv: 15, b: 9, n: 9, r: 0, h: 9},
		{name: "sub to V", op: api.OpSub, b: 0x80000000, n: 1, r: 0x7FFFFFFF, h: 9, v: true},
		{name: "sub to both", op: api.OpSub, b: 0x7FFFFFFF, n: -1, r: 0x80000000, h: 9, c: true, v: true},
		{name: "sub with U, C not set", op: api.OpSub, u: true, nzcv: off, b: 9, n: 7, r: 2, h: 9},
		{name: "sub with U, C set", op: api.OpSub, u: true, nzcv: on, b: 9, n: 7, r: 1, h: 9},
		{name: "sub without U, C set", op: api.OpSub, nzcv: on, b: 9, n: 9, r: 0, h: 9},
		{name: "sub with U to C", op: api.OpSub, u: true, nzcv: on, b: 9, n: 9, r: 0xFFFFFFFF, h: 9, c: true},
		{name: "sub with U to V", op: api.OpSub, u: true, nzcv: on, b: 0x80000000, n: 0, r: 0x7FFFFFFF, h: 9, v: true},

		{name: "mul", op: api.OpMul, nzcv: 3, b: 6, n: 7, r: 42, h: 0, c: true, v: true},
		{name: "mul with U", op: api.OpMul, u: true, b: 6, n: 7, r: 42, h: 0},
		{name: "mul below 0", op: api.OpMul, b: 12, n: -5, r: 0xFFFFFFC4, h: 0xFFFFFFFF},
		{name: "mul below 0, with U", op: api.OpMul, u: true, b: 12, n: -5, r: 0xFFFFFFC4, h: 11},
		{name: "mul to the upper half", op: api.OpMul, b: 0x40000000, n: 16, r: 0, h: 4},
		{name: "mul to the upper half, with U", op: api.OpMul, u: true, nzcv: on, b: 0xC0000000, n: 16, r: 0, h: 12, c: true},
		{name: "mul of both below 0", op: api.OpMul, b: 0xFFFFFFFF, n: -1, r: 1, h: 0},
		{name: "mul of both below 0, with U", op: api.OpMul, u: true, b: 0xFFFFFFFF, n: -1, r: 1, h: 0xFFFFFFFE},

		{name: "div", op: api.OpDiv, nzcv: 3, b: 7, n: 2, r: 3, h: 1, c: true, v: true},
		{name: "div below 0", op: api.OpDiv, b: 0xFFFFFFF9, n: 2, r: 0xFFFFFFFC, h: 1},
		{name: "div to 0", op: api.OpDiv, b: 3, n: 7, r: 0, h: 3},
		{name: "div without a rest", op: api.OpDiv, b: 0xFFFFFFFA, n: 3, r: 0xFFFFFFFE, h: 0},
		{name: "div of the least", op: api.OpDiv, b: 0x80000000, n: 1, r: 0x80000000, h: 0},
	} {
		s := with(c.nzcv, c.b, uint32(c.n))
		s.H = 9
		want := s
		want.R[3], want.H, want.N, want.Z, want.C, want.V = c.r, c.h, c.r >= 1<<31, c.r == 0, c.c, c.v
		b := 1
		if c.op == api.OpMov {
			b = 0
		}
		if !c.noReg {
			check(t, c.name+", a register", s, api.Instr{Kind: api.InReg, Op: c.op, A: 3, B: b, C: 2, U: c.u}, want, api.Running)
		}
		// The number is no register: R2 may be anything.
		s.R[2], want.R[2] = 0xDEADBEEF, 0xDEADBEEF
		check(t, c.name+", a number", s, api.Instr{Kind: api.InImm, Op: c.op, A: 3, B: b, Imm: c.n, U: c.u}, want, api.Running)
	}
}

// toWord is a number of any width modulo 2^32.
func toWord(x *big.Int) uint32 {
	return uint32(new(big.Int).And(x, big.NewInt(math.MaxUint32)).Uint64())
}

func asSigned(x uint32) *big.Int {
	if x >= 1<<31 {
		return big.NewInt(int64(x) - 1<<32)
	}
	return big.NewInt(int64(x))
}

func asPlain(x uint32) *big.Int { return big.NewInt(int64(x)) }

func isSigned(x *big.Int) bool {
	return x.Cmp(big.NewInt(math.MinInt32)) >= 0 && x.Cmp(big.NewInt(math.MaxInt32)) <= 0
}

// bitwise makes a word of what of tells of each two bits.
func bitwise(b, n uint32, of func(x, y uint32) bool) uint32 {
	var w uint32
	for at := range 32 {
		if of(b>>at&1, n>>at&1) {
			w |= 1 << at
		}
	}
	return w
}

// wantWord is what the chapter says of an operation, in numbers that never go round and bit by bit, with nothing of the program in it.
func wantWord(s api.Regs, op int, b, n uint32, u bool) (r uint32, after api.Regs, ok bool) {
	by := uint(n % 32)
	switch op {
	case api.OpMov:
		r = n
		if u {
			r = n % 65536 * 65536
		}
	case api.OpLsl:
		r = toWord(new(big.Int).Lsh(asPlain(b), by))
	case api.OpAsr:
		r = toWord(new(big.Int).Rsh(asSigned(b), by))
	case api.OpRor:
		twice := new(big.Int).Or(asPlain(b), new(big.Int).Lsh(asPlain(b), 32))
		r = toWord(new(big.Int).Rsh(twice, by))
	case api.OpAnd:
		r = bitwise(b, n, func(x, y uint32) bool { return x+y == 2 })
	case api.OpAnn:
		r = bitwise(b, n, func(x, y uint32) bool { return x == 1 && y == 0 })
	case api.OpIor:
		r = bitwise(b, n, func(x, y uint32) bool { return x+y > 0 })
	case api.OpXor:
		r = bitwise(b, n, func(x, y uint32) bool { return x+y == 1 })
	case api.OpAdd, api.OpSub:
		return wantSum(s, op, b, n, u)
	case api.OpMul, api.OpDiv:
		return wantProduct(s, op, b, n, u)
	}
	return r, s, true
}

func wantSum(s api.Regs, op int, b, n uint32, u bool) (uint32, api.Regs, bool) {
	carry := new(big.Int)
	if u && s.C {
		carry.SetInt64(1)
	}
	join := func(x, y *big.Int) *big.Int {
		if op == api.OpAdd {
			return new(big.Int).Add(new(big.Int).Add(x, y), carry)
		}
		return new(big.Int).Sub(new(big.Int).Sub(x, y), carry)
	}
	plain := join(asPlain(b), asPlain(n))
	s.C = plain.Sign() < 0 || plain.Cmp(big.NewInt(math.MaxUint32)) > 0
	s.V = !isSigned(join(asSigned(b), asSigned(n)))
	return toWord(plain), s, true
}

func wantProduct(s api.Regs, op int, b, n uint32, u bool) (uint32, api.Regs, bool) {
	if op == api.OpMul {
		product := new(big.Int).Mul(asSigned(b), asSigned(n))
		if u {
			product.Mul(asPlain(b), asPlain(n))
		}
		s.H = toWord(new(big.Int).Rsh(product, 32))
		return toWord(product), s, true
	}
	if n == 0 || n >= 1<<31 {
		return 0, s, false
	}
	// As the divisor is above 0, big's Euclidean division rounds down.
	q, r := new(big.Int).DivMod(asSigned(b), asPlain(n), new(big.Int))
	s.H = toWord(r)
	return toWord(q), s, true
}

// wantDo is what Do of an InReg, or an InImm, that may be is to answer.
func wantDo(s api.Regs, i api.Instr) (api.Regs, int) {
	n := s.R[i.C]
	if i.Kind == api.InImm {
		n = toWord(big.NewInt(int64(i.Imm)))
	}
	r, after, ok := wantWord(s, i.Op, s.R[i.B], n, i.U)
	if !ok {
		return s, api.TrDiv
	}
	after.R[i.A], after.N, after.Z = r, r >= 1<<31, r == 0
	return after, api.Running
}

func hasU(kind, op int) bool {
	return op == api.OpAdd || op == api.OpSub || op == api.OpMul || kind == api.InImm && op == api.OpMov
}

// eachOperation hands over each operation of the kind, with U and without, where it may be.
func eachOperation(kind int, do func(op int, u bool)) {
	for op := api.OpMov; op <= api.OpDiv; op++ {
		for _, u := range bools {
			if !u || hasU(kind, op) {
				do(op, u)
			}
		}
	}
}

func compare(t *testing.T, s api.Regs, i api.Instr) {
	t.Helper()
	if !isa.May(i) {
		t.Fatalf("%+v may not be", i)
	}
	want, trap := wantDo(s, i)
	check(t, "as the chapter says", s, i, want, trap)
}

func TestDoOfRegistersIsWhatTheDocumentSays(t *testing.T) {
	words := append(spread(20), edges...)
	eachOperation(api.InReg, func(op int, u bool) {
		i := api.Instr{Kind: api.InReg, Op: op, A: 3, B: 1, C: 2, U: u}
		if op == api.OpMov {
			i.B = 0
		}
		for at, b := range words {
			for by, n := range words {
				for _, c := range []int{0, 2} {
					compare(t, with((at+by)%16&^2|c, b, n), i)
				}
			}
		}
	})
}

func TestDoOfNumbersIsWhatTheDocumentSays(t *testing.T) {
	words := append(spread(20), edges...)
	eachOperation(api.InImm, func(op int, u bool) {
		for by, n := range numbers {
			i := api.Instr{Kind: api.InImm, Op: op, A: 3, B: 1, Imm: n, U: u}
			if op == api.OpMov {
				i.B = 0
			}
			if op == api.OpMov && u && n < 0 {
				continue
			}
			for at, b := range words {
				for _, c := range []int{0, 2} {
					compare(t, with((at+by)%16&^2|c, b, 5), i)
				}
			}
		}
	})
}

// TestDoOfAllRegisters has each choice of three registers, the same one twice and thrice among them.
func TestDoOfAllRegisters(t *testing.T) {
	for _, kind := range []int{api.InReg, api.InImm} {
		eachOperation(kind, func(op int, u bool) {
			for regs := range 1 << 12 {
				i := api.Instr{Kind: kind, Op: op, A: regs & 15, B: regs >> 4 & 15, C: regs >> 8, U: u}
				if op == api.OpMov {
					i.B = 0
				}
				if kind == api.InImm {
					i.C, i.Imm = 0, 1+regs>>8
				}
				compare(t, full(regs%16), i)
			}
		})
	}
}

func TestDoOfTheSameRegister(t *testing.T) {
	for _, c := range []struct {
		op   int
		u    bool
		x    uint32
		r, h uint32
		c, v bool
	}{
		{op: api.OpMov, x: 0x80000001, r: 0x80000001, h: 9, c: true},
		{op: api.OpLsl, x: 3, r: 24, h: 9, c: true},
		{op: api.OpAsr, x: 0xFFFFFFFC, r: 0xFFFFFFFF, h: 9, c: true},
		{op: api.OpRor, x: 4, r: 0x40000000, h: 9, c: true},
		{op: api.OpAnd, x: 0xABCD1234, r: 0xABCD1234, h: 9, c: true},
		{op: api.OpAnn, x: 0xABCD1234, r: 0, h: 9, c: true},
		{op: api.OpIor, x: 0xABCD1234, r: 0xABCD1234, h: 9, c: true},
		{op: api.OpXor, x: 0xABCD1234, r: 0, h: 9, c: true},
		{op: api.OpAdd, x: 0x80000000, r: 0, h: 9, c: true, v: true},
		{op: api.OpAdd, u: true, x: 0x40000000, r: 0x80000001, h: 9, v: true},
		{op: api.OpSub, x: 0x80000000, r: 0, h: 9},
		{op: api.OpSub, u: true, x: 0x80000000, r: 0xFFFFFFFF, h: 9, c: true},
		{op: api.OpMul, x: 0xFFFFFFFE, r: 4, h: 0, c: true},
		{op: api.OpMul, u: true, x: 0xFFFFFFFE, r: 4, h: 0xFFFFFFFC, c: true},
		{op: api.OpDiv, x: 7, r: 1, h: 0, c: true},
	} {
		for reg := range 16 {
			s := full(2)
			s.H, s.R[reg] = 9, c.x
			want := s
			want.R[reg], want.H, want.N, want.Z, want.C, want.V = c.r, c.h, c.r >= 1<<31, c.r == 0, c.c, c.v
			i := api.Instr{Kind: api.InReg, Op: c.op, A: reg, B: reg, C: reg, U: c.u}
			if c.op == api.OpMov {
				i.B = 0
			}
			check(t, "one register", s, i, want, api.Running)
		}
	}
}

func TestDivisionThatTraps(t *testing.T) {
	for _, n := range []int{0, -1, -2, -7, -65536} {
		for _, b := range edges {
			for nzcv := range 16 {
				s := with(nzcv, b, uint32(n))
				check(t, "by a register", s, api.Instr{Kind: api.InReg, Op: api.OpDiv, A: 3, B: 1, C: 2}, s, api.TrDiv)
				check(t, "by a number", s, api.Instr{Kind: api.InImm, Op: api.OpDiv, A: 3, B: 1, Imm: n}, s, api.TrDiv)
				check(t, "into itself", s, api.Instr{Kind: api.InReg, Op: api.OpDiv, A: 2, B: 1, C: 2}, s, api.TrDiv)
			}
		}
	}
	s := with(0, 7, 0x80000000)
	check(t, "by the least", s, api.Instr{Kind: api.InReg, Op: api.OpDiv, A: 3, B: 1, C: 2}, s, api.TrDiv)
}

func TestHMoved(t *testing.T) {
	for _, h := range edges {
		for nzcv := range 16 {
			for reg := range 16 {
				s := full(nzcv)
				s.H = h
				want := s
				want.R[reg], want.N, want.Z = h, h >= 1<<31, h == 0
				check(t, "H", s, api.Instr{Kind: api.InHi, A: reg}, want, api.Running)
			}
		}
	}
}

// TestFlagsMoved writes out the word of each setting: the flags are read as they were, and N and Z shown of that word.
func TestFlagsMoved(t *testing.T) {
	for nzcv, w := range []uint32{
		0x00000000, 0x10000000, 0x20000000, 0x30000000, 0x40000000, 0x50000000, 0x60000000, 0x70000000,
		0x80000000, 0x90000000, 0xA0000000, 0xB0000000, 0xC0000000, 0xD0000000, 0xE0000000, 0xF0000000,
	} {
		for reg := range 16 {
			s := full(nzcv)
			want := s
			want.R[reg], want.N, want.Z = w, nzcv >= 8, nzcv == 0
			check(t, "the flags", s, api.Instr{Kind: api.InFl, A: reg}, want, api.Running)
		}
	}
}

func TestInstructionsThatDoNothing(t *testing.T) {
	for name, list := range map[string][]api.Instr{
		"of no kind": {{}, {A: 1}, {Kind: -1}, {Kind: 8, A: 1}, {Kind: api.StWord}, {Kind: math.MinInt}, {Kind: math.MaxInt}, {Kind: 1<<32 + 1, A: 1, C: 2}},
		"of no operation": {
			{Kind: api.InReg, Op: -1}, {Kind: api.InReg, Op: 12, A: 1}, {Kind: api.InReg, Op: 16}, {Kind: api.InImm, Op: 12, A: 1, Imm: 1},
			{Kind: api.InImm, Op: -1}, {Kind: api.InReg, Op: math.MaxInt}, {Kind: api.InImm, Op: math.MinInt}, {Kind: api.InReg, Op: 1<<32 + 8},
		},
		"of no register": {
			{Kind: api.InReg, A: 16}, {Kind: api.InReg, A: -1}, {Kind: api.InReg, C: 16}, {Kind: api.InReg, Op: api.OpAdd, B: 16},
			{Kind: api.InReg, Op: api.OpAdd, B: -1}, {Kind: api.InReg, Op: api.OpDiv, C: -1}, {Kind: api.InImm, A: 16, Imm: 1}, {Kind: api.InImm, Op: api.OpXor, B: math.MaxInt, Imm: 1},
			{Kind: api.InHi, A: 16}, {Kind: api.InHi, A: -1}, {Kind: api.InFl, A: 16}, {Kind: api.InFl, A: math.MinInt},
		},
		"of too much": {
			{Kind: api.InReg, A: 1, B: 1, C: 2}, {Kind: api.InReg, A: 1, C: 2, Imm: 1}, {Kind: api.InReg, A: 1, C: 2, U: true}, {Kind: api.InReg, Op: api.OpXor, A: 1, U: true},
			{Kind: api.InReg, Op: api.OpDiv, A: 1, C: 2, U: true}, {Kind: api.InImm, A: 1, B: 1, Imm: 1}, {Kind: api.InImm, A: 1, C: 1, Imm: 1}, {Kind: api.InImm, Op: api.OpLsl, Imm: 1, U: true},
			{Kind: api.InHi, A: 1, Op: 1}, {Kind: api.InHi, A: 1, U: true}, {Kind: api.InFl, A: 1, B: 1}, {Kind: api.InFl, A: 1, Imm: 1},
		},
		"of no number": {
			{Kind: api.InImm, A: 1, Imm: 65536}, {Kind: api.InImm, A: 1, Imm: -65537}, {Kind: api.InImm, A: 1, Imm: -1, U: true}, {Kind: api.InImm, A: 1, Imm: 65536, U: true},
			{Kind: api.InImm, Op: api.OpDiv, Imm: math.MinInt}, {Kind: api.InImm, Op: api.OpDiv, Imm: 1 << 32}, {Kind: api.InImm, Op: api.OpAdd, Imm: math.MaxInt},
		},
		"of the memory": {
			{Kind: api.InMem, A: 1}, {Kind: api.InMem, Op: api.MmLdb, A: 1, B: 2, Imm: -4}, {Kind: api.InMem, Op: api.MmStw, A: 1, B: 2, Imm: 4},
			{Kind: api.InMem, Op: api.MmStb, A: 15, B: 15, Imm: 524287}, {Kind: api.InMem, Op: 4}, {Kind: api.InMem, A: 16},
		},
		"of branches": {
			{Kind: api.InBr, Op: 7, C: 1}, {Kind: api.InBr, Op: 7, C: 1, U: true}, {Kind: api.InBr, Op: 8, C: 15}, {Kind: api.InBr, Op: 11, C: 0, U: true}, {Kind: api.InBr, Op: 16},
			{Kind: api.InJmp, Op: 7, Imm: -1}, {Kind: api.InJmp, Op: 7, Imm: 8388607, U: true}, {Kind: api.InJmp, Op: 11}, {Kind: api.InJmp, Op: 16},
		},
	} {
		for _, i := range list {
			for nzcv := range 16 {
				s := with(nzcv, 0xFFFFFFF9, 0)
				check(t, name, s, i, s, api.Running)
			}
		}
	}
}

// TestDoOfAllEdges has instructions of all kinds, most of which may not be: those do nothing, the others what the chapter says.
func TestDoOfAllEdges(t *testing.T) {
	regs := []int{-1, 0, 1, 15, 16}
	eachInstr := func(do func(i api.Instr)) {
		for kind := -1; kind <= 11; kind++ {
			for op := -1; op <= 16; op++ {
				for at := range len(regs) * len(regs) * len(regs) {
					for _, n := range []int{0, 1, -1, 65535, 65536, -65536, -65537, math.MinInt, math.MaxInt, 1 << 32} {
						for _, u := range bools {
							do(api.Instr{Kind: kind, Op: op, A: regs[at%5], B: regs[at/5%5], C: regs[at/25], Imm: n, U: u})
						}
					}
				}
			}
		}
	}
	s := full(10)
	eachInstr(func(i api.Instr) {
		if isa.May(i) && (i.Kind == api.InReg || i.Kind == api.InImm) {
			compare(t, s, i)
			return
		}
		if isa.May(i) && (i.Kind == api.InHi || i.Kind == api.InFl) {
			return
		}
		check(t, "nothing", s, i, s, api.Running)
	})
}

// P4.3

// whichTaken tells of each condition whether it holds, with the flags N, Z, C, V as 0000, 0001 and so on up to 1111.
var whichTaken = [16]string{
	"0000000011111111", // N
	"0000111100001111", // Z
	"0011001100110011", // C
	"0101010101010101", // V
	"0011111100111111", // C or Z
	"0101010110101010", // N unlike V
	"0101111110101111", // that, or Z
	"1111111111111111", // always
	"1111111100000000",
	"1111000011110000",
	"1100110011001100",
	"1010101010101010",
	"1100000011000000",
	"1010101001010101",
	"1010000001010000",
	"0000000000000000", // never
}

func TestTakenOfAllConditions(t *testing.T) {
	for cond, taken := range whichTaken {
		for nzcv := range 16 {
			if got := Taken(full(nzcv), cond); got != (taken[nzcv] == '1') {
				t.Errorf("condition %d with the flags %04b is %v", cond, nzcv, got)
			}
		}
	}
}

func TestTakenHangsOnTheFlagsAlone(t *testing.T) {
	for cond := range 16 {
		for nzcv := range 16 {
			s := full(nzcv)
			bare := api.Regs{N: s.N, Z: s.Z, C: s.C, V: s.V}
			if Taken(s, cond) != Taken(bare, cond) {
				t.Errorf("condition %d with the flags %04b hangs on the registers", cond, nzcv)
			}
		}
	}
}

func TestTakenOfConditionsThatThereAreNot(t *testing.T) {
	conds := []int{math.MinInt, math.MinInt + 7, math.MinInt + 8, math.MaxInt, math.MaxInt - 8, 1 << 32, 1<<32 + 7, -1 << 32}
	for d := range 300 {
		conds = append(conds, -1-d, 16+d)
	}
	for _, cond := range conds {
		for nzcv := range 16 {
			if Taken(full(nzcv), cond) {
				t.Errorf("condition %d with the flags %04b holds", cond, nzcv)
			}
		}
	}
}
