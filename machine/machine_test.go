package machine

import (
	"math"
	"slices"
	"testing"

	"rivet/alu"
	"rivet/api"
	"rivet/isa"
)

// state is all that a machine tells of itself.
type state struct {
	status     int
	pc         uint32
	regs       api.Regs
	words, out []uint32
}

func stateOf(m *Machine) state {
	return state{m.Status(), m.PC(), m.Regs(), m.Words(), m.Out()}
}

func (s state) same(o state) bool {
	return s.status == o.status && s.pc == o.pc && s.regs == o.regs && slices.Equal(s.words, o.words) && slices.Equal(s.out, o.out)
}

func check(t *testing.T, name string, m *Machine, want state) {
	t.Helper()
	if got := stateOf(m); !got.same(want) {
		t.Errorf("%s:\n got %+v\nwant %+v", name, got, want)
	}
}

func fresh(t *testing.T, words int, in ...uint32) *Machine {
	t.Helper()
	m, e := New(words, in)
	if m == nil || e != api.OK {
		t.Fatalf("New(%d) = %v, %d", words, m, e)
	}
	return m
}

func place(t *testing.T, m *Machine, at int, l ...uint32) {
	t.Helper()
	if e := m.Place(at, l); e != api.OK {
		t.Fatalf("Place(%d, %X) = %d", at, l, e)
	}
}

// word tells the word of an instruction that may be.
func word(t *testing.T, i api.Instr) uint32 {
	t.Helper()
	w, e := isa.Encode(i)
	if e != api.OK {
		t.Fatalf("%+v is no instruction", i)
	}
	return w
}

func code(t *testing.T, l ...api.Instr) []uint32 {
	t.Helper()
	var all []uint32
	for _, i := range l {
		all = append(all, word(t, i))
	}
	return all
}

// mixed are words of which no two bytes near each other are the same.
func mixed(count int) []uint32 {
	l := make([]uint32, count)
	for n := range l {
		l[n] = uint32(n)*0x9E3779B1 + 0x04030201
	}
	return l
}

// full are registers of which no two are the same, with the flags as the lowest four bits of nzcv say.
func full(nzcv int) api.Regs {
	s := api.Regs{H: 0xBEEF0000, N: nzcv&8 != 0, Z: nzcv&4 != 0, C: nzcv&2 != 0, V: nzcv&1 != 0}
	for at := range s.R {
		s.R[at] = 0x11111111*uint32(at) + 3
	}
	return s
}

// The instructions that most tests need: loads and stores at R0 and a number, where R0 is 0.

func ldw(a, imm int) api.Instr { return api.Instr{Kind: api.InMem, Op: api.MmLdw, A: a, Imm: imm} }
func stw(a, imm int) api.Instr { return api.Instr{Kind: api.InMem, Op: api.MmStw, A: a, Imm: imm} }
func mov(a, imm int) api.Instr { return api.Instr{Kind: api.InImm, Op: api.OpMov, A: a, Imm: imm} }
func jmp(imm int) api.Instr    { return api.Instr{Kind: api.InJmp, Op: 7, Imm: imm} }
func add(a, b, imm int) api.Instr {
	return api.Instr{Kind: api.InImm, Op: api.OpAdd, A: a, B: b, Imm: imm}
}

// The ports' addresses, as numbers that go with a register of 0.
const (
	portIn   = -64
	portOut  = -60
	portHalt = -56
)

// inputsLeft tells the inputs that the machine would load still; 0 tells that there are none, so that inputs of tests are not 0. What else the machine is, is lost.
func inputsLeft(t *testing.T, m *Machine) []uint32 {
	t.Helper()
	place(t, m, 0, word(t, ldw(1, portIn)))
	var all []uint32
	for {
		m.Start(0, api.Regs{})
		if m.Step() != api.Running {
			t.Fatalf("loading an input: %d", m.Status())
		}
		x := m.Regs().R[1]
		if x == 0 {
			return all
		}
		all = append(all, x)
	}
}

// P6.1

func TestNewOfAllSizes(t *testing.T) {
	for _, count := range []int{0, 1, 2, 20, 1024, 4095, 4096} {
		m := fresh(t, count, 5, 6)
		check(t, "new", m, state{words: make([]uint32, count)})
		if got := len(m.Words()); got != count {
			t.Errorf("New(%d) has %d words", count, got)
		}
		if count > 0 {
			if got := inputsLeft(t, m); !slices.Equal(got, []uint32{5, 6}) {
				t.Errorf("New(%d) has the inputs %d", count, got)
			}
		}
	}
}

func TestNewOfSizesThatMayNotBe(t *testing.T) {
	for _, count := range []int{-1, -2, -4096, math.MinInt, -1 << 32, 4097, 4098, 16384, 1 << 32, 1<<32 + 1, math.MaxInt} {
		for _, in := range [][]uint32{nil, {}, {1, 2}} {
			if m, e := New(count, in); m != nil || e != api.ErrBig {
				t.Errorf("New(%d, %d) = %v, %d", count, in, m, e)
			}
		}
	}
}

func TestPlace(t *testing.T) {
	for _, c := range []struct {
		name  string
		count int
		at    int
		l     []uint32
		e     api.Errno
		want  []uint32
	}{
		{"at 0", 3, 0, []uint32{1, 2}, api.OK, []uint32{1, 2, 9}},
		{"the last one", 3, 2, []uint32{1}, api.OK, []uint32{9, 9, 1}},
		{"all of them", 3, 0, []uint32{1, 2, 3}, api.OK, []uint32{1, 2, 3}},
		{"none at the end", 3, 3, nil, api.OK, []uint32{9, 9, 9}},
		{"none in none", 0, 0, nil, api.OK, nil},
		{"one more", 3, 0, []uint32{1, 2, 3, 4}, api.ErrBase, []uint32{9, 9, 9}},
		{"one more at the last", 3, 2, []uint32{1, 2}, api.ErrBase, []uint32{9, 9, 9}},
		{"one at the end", 3, 3, []uint32{1}, api.ErrBase, []uint32{9, 9, 9}},
		{"none beyond the end", 3, 4, nil, api.ErrBase, []uint32{9, 9, 9}},
		{"one in none", 0, 0, []uint32{1}, api.ErrBase, nil},
		{"none below 0", 3, -1, nil, api.ErrBase, []uint32{9, 9, 9}},
		{"from below 0 on", 3, -1, []uint32{1, 2}, api.ErrBase, []uint32{9, 9, 9}},
		{"at the least", 3, math.MinInt, []uint32{1}, api.ErrBase, []uint32{9, 9, 9}},
		{"at the greatest", 3, math.MaxInt, []uint32{1}, api.ErrBase, []uint32{9, 9, 9}},
		{"at 2^32", 3, 1 << 32, []uint32{1}, api.ErrBase, []uint32{9, 9, 9}},
	} {
		m := fresh(t, c.count)
		place(t, m, 0, slices.Repeat([]uint32{9}, c.count)...)
		m.Start(8, full(5))
		if e := m.Place(c.at, c.l); e != c.e {
			t.Errorf("%s: Place told %d, want %d", c.name, e, c.e)
		}
		check(t, c.name, m, state{pc: 8, regs: full(5), words: c.want})
	}
}

func TestPlaceLeavesHowItStands(t *testing.T) {
	for name, c := range map[string]struct {
		i    api.Instr
		want int
	}{
		"halted":  {stw(0, portHalt), api.Halted},
		"trapped": {ldw(0, 2), api.TrAlign},
	} {
		m := fresh(t, 2)
		place(t, m, 0, word(t, c.i))
		if got := m.Step(); got != c.want {
			t.Errorf("%s: %d", name, got)
		}
		want := stateOf(m)
		want.words = []uint32{7, 8}
		place(t, m, 0, 7, 8)
		check(t, name, m, want)
		if e := m.Place(1, []uint32{1, 2}); e != api.ErrBase {
			t.Errorf("%s: Place told %d", name, e)
		}
		check(t, name, m, want)
	}
}

func TestStartSetsPCAndRegisters(t *testing.T) {
	m := fresh(t, 2)
	for _, pc := range []uint32{0, 4, 8, 1, 2, 3, 0x7FFFFFFF, 0x80000000, api.PortIn, 0xFFFFFFFC, 0xFFFFFFFF} {
		for nzcv := range 16 {
			m.Start(pc, full(nzcv))
			check(t, "started", m, state{pc: pc, regs: full(nzcv), words: []uint32{0, 0}})
		}
	}
	m.Start(0, api.Regs{})
	check(t, "started with noughts", m, state{words: []uint32{0, 0}})
}

// TestStartAgain has a program that takes an input, puts it out, stores it, and stops: each of the ways to stop.
func TestStartAgain(t *testing.T) {
	for name, c := range map[string]struct {
		stop   api.Instr
		status int
		pc     uint32
	}{
		"behind a halt":            {stw(0, portHalt), api.Halted, 16},
		"behind a trap":            {ldw(0, 2), api.TrAlign, 12},
		"behind a trap beyond":     {stw(0, 32), api.TrMem, 12},
		"behind a division":        {api.Instr{Kind: api.InImm, Op: api.OpDiv}, api.TrDiv, 12},
		"while it runs":            {jmp(0), api.Running, 16},
		"while it runs, elsewhere": {jmp(-4), api.Running, 0},
	} {
		m := fresh(t, 8, 5, 6, 7)
		program := code(t, ldw(1, portIn), stw(1, portOut), stw(1, 28), c.stop)
		place(t, m, 0, program...)
		words := append(program, 0, 0, 0, 0)
		regs, out := api.Regs{}, []uint32(nil)
		for _, x := range []uint32{5, 6, 7} {
			if got := m.Run(4); got != c.status {
				t.Errorf("%s: Run = %d", name, got)
			}
			regs.R[1], words[7], out = x, x, append(out, x)
			check(t, name, m, state{c.status, c.pc, regs, words, out})
			regs = full(int(x))
			regs.R[0] = 0
			m.Start(0, regs)
			check(t, name, m, state{api.Running, 0, regs, words, out})
			regs.N, regs.Z = false, false
		}
		if got := inputsLeft(t, m); got != nil {
			t.Errorf("%s: the inputs %d are left", name, got)
		}
	}
}

// P6.2

// one is one step: from the word, or the instruction, at pc, with registers before; what has changed behind it, change says.
type one struct {
	name   string
	i      api.Instr
	w      uint32 // in place of i, if i is of no kind
	count  int    // words of the memory, 16 if it is 0
	pc     uint32
	regs   api.Regs
	in     []uint32
	status int
	left   int // of the inputs
	change func(s *state)
}

// try does the step, with mixed words around the instruction and an output told already, and looks at all that has changed.
func (c one) try(t *testing.T) {
	t.Helper()
	if c.count == 0 {
		c.count = 16
	}
	m := fresh(t, c.count, c.in...)
	place(t, m, 0, word(t, stw(0, portOut)))
	m.Step()
	place(t, m, 0, mixed(c.count)...)
	if c.i.Kind != 0 {
		c.w = word(t, c.i)
	}
	if c.pc/4 < uint32(c.count) {
		place(t, m, int(c.pc/4), c.w)
	}
	m.Start(c.pc, c.regs)
	want := stateOf(m)
	want.status = c.status
	if c.change != nil {
		c.change(&want)
	}
	if got := m.Step(); got != c.status {
		t.Errorf("%s: Step = %d, want %d", c.name, got, c.status)
	}
	check(t, c.name, m, want)
	if c.status != api.Running {
		c.stays(t, m, want)
	}
	if got := inputsLeft(t, m); !slices.Equal(got, c.in[len(c.in)-c.left:]) {
		t.Errorf("%s: the inputs %d are left, of %d", c.name, got, c.in)
	}
}

// stays looks whether a machine that does not run stays as it is.
func (c one) stays(t *testing.T, m *Machine, want state) {
	t.Helper()
	for _, fuel := range []int{math.MinInt, -1, 0, 1, 2, math.MaxInt} {
		if got := m.Run(fuel); got != c.status {
			t.Errorf("%s: Run(%d) of one that does not run = %d", c.name, fuel, got)
		}
		if got := m.Step(); got != c.status {
			t.Errorf("%s: Step of one that does not run = %d", c.name, got)
		}
		check(t, c.name+", which does not run", m, want)
	}
}

// goesOn is a change by which PC is 4 more, and the registers are those that set leaves.
func goesOn(set func(s *api.Regs)) func(s *state) {
	return func(s *state) {
		s.pc += 4
		if set != nil {
			set(&s.regs)
		}
	}
}

func TestTheExample(t *testing.T) {
	one{name: "41000005", w: 0x41000005, change: goesOn(func(s *api.Regs) { s.R[1] = 5 })}.try(t)
}

func TestOperations(t *testing.T) {
	shown := func(s *api.Regs, a int, x uint32) {
		s.R[a], s.N, s.Z = x, x >= 1<<31, x == 0
	}
	s := full(6)
	s.R[1], s.R[2] = 7, 9
	for _, c := range []one{
		{name: "mov of a register", i: api.Instr{Kind: api.InReg, Op: api.OpMov, A: 3, C: 1}, change: goesOn(func(s *api.Regs) { shown(s, 3, 7) })},
		{name: "mov of a number", i: mov(3, -1), change: goesOn(func(s *api.Regs) { shown(s, 3, 0xFFFFFFFF) })},
		{name: "mov of 0", i: mov(3, 0), change: goesOn(func(s *api.Regs) { shown(s, 3, 0) })},
		{name: "mov to the upper half", i: api.Instr{Kind: api.InImm, Op: api.OpMov, A: 3, Imm: 0x8001, U: true}, change: goesOn(func(s *api.Regs) { shown(s, 3, 0x80010000) })},
		{name: "the upper half", i: api.Instr{Kind: api.InHi, A: 4}, change: goesOn(func(s *api.Regs) { shown(s, 4, 0xBEEF0000) })},
		{name: "the flags", i: api.Instr{Kind: api.InFl, A: 5}, change: goesOn(func(s *api.Regs) { shown(s, 5, 0x60000000) })},
		{name: "shift", i: api.Instr{Kind: api.InReg, Op: api.OpLsl, A: 3, B: 1, C: 2}, change: goesOn(func(s *api.Regs) { shown(s, 3, 7<<9) })},
		{name: "add of registers", i: api.Instr{Kind: api.InReg, Op: api.OpAdd, A: 15, B: 1, C: 2}, change: goesOn(func(s *api.Regs) { shown(s, 15, 16); s.C, s.V = false, false })},
		{name: "add with the carry", i: api.Instr{Kind: api.InReg, Op: api.OpAdd, A: 0, B: 1, C: 2, U: true}, change: goesOn(func(s *api.Regs) { shown(s, 0, 17); s.C, s.V = false, false })},
		{name: "sub of a number", i: api.Instr{Kind: api.InImm, Op: api.OpSub, A: 2, B: 1, Imm: 9}, change: goesOn(func(s *api.Regs) { shown(s, 2, 0xFFFFFFFE); s.C, s.V = true, false })},
		{name: "mul", i: api.Instr{Kind: api.InImm, Op: api.OpMul, A: 3, B: 1, Imm: -2}, change: goesOn(func(s *api.Regs) { shown(s, 3, 0xFFFFFFF2); s.H = 0xFFFFFFFF })},
		{name: "mul without a sign", i: api.Instr{Kind: api.InImm, Op: api.OpMul, A: 3, B: 1, Imm: -2, U: true}, change: goesOn(func(s *api.Regs) { shown(s, 3, 0xFFFFFFF2); s.H = 6 })},
		{name: "div", i: api.Instr{Kind: api.InReg, Op: api.OpDiv, A: 3, B: 2, C: 1}, change: goesOn(func(s *api.Regs) { shown(s, 3, 1); s.H = 2 })},
		{name: "at the last word", i: mov(3, 5), pc: 60, change: goesOn(func(s *api.Regs) { shown(s, 3, 5) })},
	} {
		c.regs, c.in, c.left = s, []uint32{5, 6}, 2
		c.try(t)
	}
}

// TestEachOperationIsTheAlus has all operations, on all flags.
func TestEachOperationIsTheAlus(t *testing.T) {
	for _, kind := range []int{api.InReg, api.InImm, api.InHi, api.InFl} {
		for op := api.OpMov; op <= api.OpDiv; op++ {
			for bits := range 32 {
				i := api.Instr{Kind: kind, Op: op, A: 3, B: 1, U: bits&16 != 0}
				switch {
				case kind == api.InHi || kind == api.InFl:
					i = api.Instr{Kind: kind, A: op}
				case op == api.OpMov:
					i.B = 0
				}
				switch kind {
				case api.InReg:
					i.C = 2
				case api.InImm:
					i.Imm = 12345
				}
				if !isa.May(i) {
					continue
				}
				s := full(bits & 15)
				want, how := alu.Do(s, i)
				one{name: "as alu.Do", i: i, pc: 20, regs: s, status: how, change: goesOn(func(s *api.Regs) { *s = want })}.try(t)
			}
		}
	}
}

// with are full registers, but that R at the first number of each pair is the second one.
func with(nzcv int, pairs ...uint32) api.Regs {
	s := full(nzcv)
	for k := 0; k < len(pairs); k += 2 {
		s.R[pairs[k]] = pairs[k+1]
	}
	return s
}

// TestLoads has the word or the byte at R2 and a number come to R1.
func TestLoads(t *testing.T) {
	for _, c := range []struct {
		name string
		word uint32 // that of the address 8
		base uint32
		op   int
		imm  int
		want uint32
	}{
		{"a word, 0", 0x04030201, 8, api.MmLdw, 0, 0x04030201},
		{"a word, above 0", 0x04030201, 4, api.MmLdw, 4, 0x04030201},
		{"a word, below 0", 0x04030201, 12, api.MmLdw, -4, 0x04030201},
		{"a word, from far below", 0x04030201, 0x80000 + 8, api.MmLdw, -0x80000, 0x04030201},
		{"a word, round above", 0x04030201, 0xFFFFFFFC, api.MmLdw, 12, 0x04030201},
		{"a word, round from far", 0x04030201, 0xFFF80009, api.MmLdw, 0x7FFFF, 0x04030201},
		{"a word of two that are not aligned", 0x04030201, 11, api.MmLdw, -3, 0x04030201},
		{"a word of 0", 0, 8, api.MmLdw, 0, 0},
		{"a word with its highest bit", 0x80000000, 8, api.MmLdw, 0, 0x80000000},
		{"a word of all bits", 0xFFFFFFFF, 8, api.MmLdw, 0, 0xFFFFFFFF},
		{"the greatest word", 0x7FFFFFFF, 8, api.MmLdw, 0, 0x7FFFFFFF},
		{"a byte, 0", 0x04030201, 8, api.MmLdb, 0, 1},
		{"a byte, 1", 0x04030201, 8, api.MmLdb, 1, 2},
		{"a byte, 2", 0x04030201, 8, api.MmLdb, 2, 3},
		{"a byte, 3", 0x04030201, 8, api.MmLdb, 3, 4},
		{"a byte, below 0", 0x04030201, 12, api.MmLdb, -1, 4},
		{"a byte, round above", 0x04030201, 0xFFFFFFFF, api.MmLdb, 10, 2},
		{"a byte of 0", 0xFF00FFFF, 8, api.MmLdb, 2, 0},
		{"a byte with its highest bit", 0x80818283, 8, api.MmLdb, 3, 0x80},
		{"a byte of all bits", 0xFFFFFFFF, 8, api.MmLdb, 3, 0xFF},
	} {
		for nzcv := range 16 {
			m := fresh(t, 4, 5)
			place(t, m, 1, word(t, api.Instr{Kind: api.InMem, Op: c.op, A: 1, B: 2, Imm: c.imm}), c.word)
			m.Start(4, with(nzcv, 2, c.base))
			want := stateOf(m)
			want.pc = 8
			want.regs.R[1] = c.want
			want.regs.N, want.regs.Z = c.want >= 1<<31, c.want == 0
			if got := m.Step(); got != api.Running {
				t.Errorf("%s: Step = %d", c.name, got)
			}
			check(t, c.name, m, want)
		}
	}
}

// TestStores has R1, or its lowest byte, go to R2 and a number; no flag is changed by it.
func TestStores(t *testing.T) {
	for _, c := range []struct {
		name string
		x    uint32
		base uint32
		op   int
		imm  int
		at   int
		want uint32
	}{
		{"a word, 0", 0x89ABCDEF, 8, api.MmStw, 0, 2, 0x89ABCDEF},
		{"a word, above 0", 0x89ABCDEF, 4, api.MmStw, 4, 2, 0x89ABCDEF},
		{"a word, below 0", 0x89ABCDEF, 12, api.MmStw, -4, 2, 0x89ABCDEF},
		{"a word, round above", 0x89ABCDEF, 0xFFFFFFF0, api.MmStw, 24, 2, 0x89ABCDEF},
		{"a word, from far below", 0x89ABCDEF, 0x80008, api.MmStw, -0x80000, 2, 0x89ABCDEF},
		{"a word of 0", 0, 8, api.MmStw, 0, 2, 0},
		{"the first word", 0x89ABCDEF, 8, api.MmStw, -8, 0, 0x89ABCDEF},
		{"the last word", 0x89ABCDEF, 8, api.MmStw, 4, 3, 0x89ABCDEF},
		{"its own word", 0x89ABCDEF, 4, api.MmStw, 0, 1, 0x89ABCDEF},
		{"a byte, 0", 0x89ABCDEF, 8, api.MmStb, 0, 2, 0x040302EF},
		{"a byte, 1", 0x89ABCDEF, 8, api.MmStb, 1, 2, 0x0403EF01},
		{"a byte, 2", 0x89ABCDEF, 8, api.MmStb, 2, 2, 0x04EF0201},
		{"a byte, 3", 0x89ABCDEF, 8, api.MmStb, 3, 2, 0xEF030201},
		{"a byte, below 0", 0x89ABCDEF, 12, api.MmStb, -1, 2, 0xEF030201},
		{"a byte, round above", 0x89ABCDEF, 0xFFFFFFFF, api.MmStb, 10, 2, 0x0403EF01},
		{"a byte of 0", 0x89ABCD00, 8, api.MmStb, 0, 2, 0x04030200},
		{"the last byte", 0x89ABCDEF, 15, api.MmStb, 0, 3, 0xEF000000},
	} {
		for nzcv := range 16 {
			m := fresh(t, 4, 5)
			place(t, m, 1, word(t, api.Instr{Kind: api.InMem, Op: c.op, A: 1, B: 2, Imm: c.imm}), 0x04030201)
			m.Start(4, with(nzcv, 1, c.x, 2, c.base))
			want := stateOf(m)
			want.pc = 8
			want.words[c.at] = c.want
			if got := m.Step(); got != api.Running {
				t.Errorf("%s: Step = %d", c.name, got)
			}
			check(t, c.name, m, want)
		}
	}
}

func TestMovesWhereBothRegistersAreOne(t *testing.T) {
	same := func(op int) api.Instr { return api.Instr{Kind: api.InMem, Op: op, A: 9, B: 9, Imm: 4} }
	words := mixed(16)
	for _, c := range []one{
		{name: "ldw", i: same(api.MmLdw), change: goesOn(func(s *api.Regs) { s.R[9] = words[6]; s.N = words[6]>>31 == 1 })},
		{name: "ldb", i: same(api.MmLdb), change: goesOn(func(s *api.Regs) { s.R[9] = words[6] & 0xFF; s.N = false })},
		{name: "stw", i: same(api.MmStw), change: func(s *state) { s.pc += 4; s.words[6] = 20 }},
		{name: "stb", i: same(api.MmStb), change: func(s *state) { s.pc += 4; s.words[6] = words[6]&^0xFF | 20 }},
	} {
		c.regs = with(0, 9, 20)
		c.try(t)
	}
}

func TestMovesOfEachRegister(t *testing.T) {
	for a := range 16 {
		b := (a + 5) % 16
		of := func(op int) api.Instr { return api.Instr{Kind: api.InMem, Op: op, A: a, B: b, Imm: -8} }
		s := with(3, uint32(a), 0xCAFE0000+uint32(a), uint32(b), 36)
		for _, c := range []one{
			{name: "ldw", i: of(api.MmLdw), change: goesOn(func(s *api.Regs) { s.R[a] = mixed(8)[7]; *s = alu.Show(*s, s.R[a]) })},
			{name: "stw", i: of(api.MmStw), change: func(s *state) { s.pc += 4; s.words[7] = 0xCAFE0000 + uint32(a) }},
		} {
			c.regs = s
			c.try(t)
		}
	}
}

// TestAWordThatWasStoredIsDone has a program that writes the instruction behind it.
func TestAWordThatWasStoredIsDone(t *testing.T) {
	m := fresh(t, 4)
	place(t, m, 0, code(t, stw(1, 4), mov(2, 1))...)
	m.Start(0, api.Regs{R: [16]uint32{1: word(t, mov(2, 77))}})
	if m.Step() != api.Running || m.Step() != api.Running || m.Regs().R[2] != 77 || m.PC() != 8 {
		t.Errorf("%+v", stateOf(m))
	}
}

func TestTrapsOfMoves(t *testing.T) {
	for _, c := range []struct {
		name           string
		base           uint32
		imm            int
		ofWord, ofByte int
	}{
		{"not aligned by 1", 8, 1, api.TrAlign, api.Running},
		{"not aligned by 2", 8, 2, api.TrAlign, api.Running},
		{"not aligned by 3", 8, 3, api.TrAlign, api.Running},
		{"not aligned below", 8, -1, api.TrAlign, api.Running},
		{"not aligned, by the register", 9, 4, api.TrAlign, api.Running},
		{"the last byte", 60, 3, api.TrAlign, api.Running},
		{"behind the last word", 60, 4, api.TrMem, api.TrMem},
		{"a byte behind the last word", 60, 5, api.TrAlign, api.TrMem},
		{"far behind", 60, 0x7FFFC, api.TrMem, api.TrMem},
		{"far behind, and back not far enough", 0x80040, -0x80000, api.TrMem, api.TrMem},
		{"round below 0", 8, -12, api.TrMem, api.TrMem},
		{"round below 0, not aligned", 8, -9, api.TrAlign, api.TrMem},
		{"the middle of all", 0x7FFFFFFC, 4, api.TrMem, api.TrMem},
		{"by bits above those of the memory", 0x80000008, 0, api.TrMem, api.TrMem},
		{"by bit 14", 1<<14 + 8, 0, api.TrMem, api.TrMem},
		{"ahead of the ports", api.PortIn, -4, api.TrMem, api.TrMem},
		{"behind the ports", api.PortHalt, 4, api.TrMem, api.TrMem},
		{"in the port in", api.PortIn, 1, api.TrAlign, api.TrMem},
		{"in the port out", api.PortOut, 2, api.TrAlign, api.TrMem},
		{"in the port to halt", api.PortHalt, 3, api.TrAlign, api.TrMem},
		{"the last byte of all", 0xFFFFFFFF, 0, api.TrAlign, api.TrMem},
	} {
		for op, trap := range []int{c.ofWord, c.ofByte, c.ofWord, c.ofByte} {
			if trap == api.Running {
				continue
			}
			one{name: c.name, i: api.Instr{Kind: api.InMem, Op: op, A: 1, B: 2, Imm: c.imm}, pc: 4, regs: with(op, 2, c.base), in: []uint32{5, 6}, left: 2, status: trap}.try(t)
		}
	}
}

// TestTrapsAroundThePorts has all addresses near the ports, but for the moves of words at the ports themselves.
func TestTrapsAroundThePorts(t *testing.T) {
	for at := uint32(api.PortIn - 8); at != api.PortHalt+12; at++ {
		isPort := at == api.PortIn || at == api.PortOut || at == api.PortHalt
		for op := api.MmLdw; op <= api.MmStb; op++ {
			ofWord := op == api.MmLdw || op == api.MmStw
			if isPort && ofWord {
				continue
			}
			trap := api.TrMem
			if ofWord && at%4 != 0 {
				trap = api.TrAlign
			}
			one{name: "near the ports", i: api.Instr{Kind: api.InMem, Op: op, A: 1, B: 2}, regs: with(op, 2, at), in: []uint32{5, 6}, left: 2, status: trap}.try(t)
		}
	}
}

func TestTrapsOfMovesInOtherMemories(t *testing.T) {
	for _, count := range []int{1, 2, 4095, 4096} {
		end := uint32(4 * count)
		for op := api.MmLdw; op <= api.MmStb; op++ {
			i := api.Instr{Kind: api.InMem, Op: op, A: 1, B: 2}
			one{name: "at the end", i: i, count: count, regs: with(op, 2, end), status: api.TrMem}.try(t)
			i.Imm = -4
			m := fresh(t, count)
			place(t, m, 0, word(t, i))
			m.Start(0, with(op, 2, end))
			if got := m.Step(); got != api.Running {
				t.Errorf("the last word of %d by %d: %d", count, op, got)
			}
		}
	}
}

func TestPorts(t *testing.T) {
	move := func(op, imm int) api.Instr {
		return api.Instr{Kind: api.InMem, Op: op, A: 1, B: 2, Imm: imm}
	}
	loads := func(x uint32) func(s *state) {
		return goesOn(func(s *api.Regs) { s.R[1], s.N, s.Z = x, x >= 1<<31, x == 0 })
	}
	out := func(x uint32) func(s *state) {
		return func(s *state) { s.pc += 4; s.out = append(s.out, x) }
	}
	for _, c := range []one{
		{name: "an input", i: move(api.MmLdw, portIn), in: []uint32{5, 6}, left: 1, change: loads(5)},
		{name: "the last input", i: move(api.MmLdw, portIn), in: []uint32{6}, left: 0, change: loads(6)},
		{name: "an input with its highest bit", i: move(api.MmLdw, portIn), in: []uint32{0x80000000, 1}, left: 1, change: loads(0x80000000)},
		{name: "an input of 0", i: move(api.MmLdw, portIn), in: []uint32{0, 4}, left: 1, change: loads(0)},
		{name: "no input", i: move(api.MmLdw, portIn), change: loads(0)},
		{name: "an input at the last word", i: move(api.MmLdw, portIn), pc: 60, in: []uint32{5, 6}, left: 1, change: loads(5)},
		{name: "an output", i: move(api.MmStw, portOut), in: []uint32{5, 6}, left: 2, change: out(0x89ABCDEF)},
		{name: "an output at the last word", i: move(api.MmStw, portOut), pc: 60, change: out(0x89ABCDEF)},
		{name: "a halt", i: move(api.MmStw, portHalt), in: []uint32{5, 6}, left: 2, status: api.Halted, change: goesOn(nil)},
		{name: "a halt at the last word", i: move(api.MmStw, portHalt), pc: 60, status: api.Halted, change: goesOn(nil)},
		{name: "to load from the port out", i: move(api.MmLdw, portOut), in: []uint32{5, 6}, left: 2, status: api.TrMem},
		{name: "to load from the port to halt", i: move(api.MmLdw, portHalt), in: []uint32{5, 6}, left: 2, status: api.TrMem},
		{name: "to store at the port in", i: move(api.MmStw, portIn), in: []uint32{5, 6}, left: 2, status: api.TrMem},
		{name: "to load a byte from the port in", i: move(api.MmLdb, portIn), in: []uint32{5, 6}, left: 2, status: api.TrMem},
		{name: "to load a byte from the port out", i: move(api.MmLdb, portOut), in: []uint32{5, 6}, left: 2, status: api.TrMem},
		{name: "to load a byte from the port to halt", i: move(api.MmLdb, portHalt), in: []uint32{5, 6}, left: 2, status: api.TrMem},
		{name: "to store a byte at the port in", i: move(api.MmStb, portIn), in: []uint32{5, 6}, left: 2, status: api.TrMem},
		{name: "to store a byte at the port out", i: move(api.MmStb, portOut), in: []uint32{5, 6}, left: 2, status: api.TrMem},
		{name: "to store a byte at the port to halt", i: move(api.MmStb, portHalt), in: []uint32{5, 6}, left: 2, status: api.TrMem},
	} {
		for nzcv := range 16 {
			c.regs = with(nzcv, 1, 0x89ABCDEF, 2, 0)
			c.try(t)
			// The same addresses, by the register alone, and from far.
			number := c.i.Imm
			for _, far := range []int{0, 64, -0x80000, 0x7FFFF} {
				c.i.Imm = far
				c.regs.R[2] = uint32(number - far)
				c.try(t)
			}
			c.i.Imm = number
		}
	}
}

func TestAnythingHalts(t *testing.T) {
	for _, x := range []uint32{0, 1, 0x80000000, 0xFFFFFFFF} {
		one{name: "a halt", i: stw(1, portHalt), regs: with(0, 0, 0, 1, x), status: api.Halted, change: goesOn(nil)}.try(t)
	}
}

// TestInputsAndOutputsInOrder has a loop that puts out what it takes in, and 0 behind the last one.
func TestInputsAndOutputsInOrder(t *testing.T) {
	for _, in := range [][]uint32{nil, {}, {7}, {3, 0, 0xFFFFFFFF, 3, 1, 0x80000000}, mixed(500)} {
		m := fresh(t, 3, in...)
		place(t, m, 0, code(t, ldw(1, portIn), stw(1, portOut), jmp(-3))...)
		want := append(slices.Clone(in), 0, 0, 0)
		for n := range want {
			if got := m.Run(3); got != api.Running {
				t.Errorf("Run = %d", got)
			}
			if got := m.Out(); !slices.Equal(got, want[:n+1]) {
				t.Errorf("of the inputs %X the outputs are %X, want %X", in, got, want[:n+1])
			}
		}
	}
}

// holds tells the conditions as the document's list has them.
func holds(s api.Regs, cond int) bool {
	is := false
	switch cond % 8 {
	case 0:
		is = s.N
	case 1:
		is = s.Z
	case 2:
		is = s.C
	case 3:
		is = s.V
	case 4:
		is = s.C || s.Z
	case 5:
		is = s.N != s.V
	case 6:
		is = s.N != s.V || s.Z
	case 7:
		is = true
	}
	return is != (cond >= 8)
}

func TestBranchesOfAllConditions(t *testing.T) {
	for cond := range 16 {
		for nzcv := range 16 {
			for _, u := range []bool{false, true} {
				s := with(nzcv, 6, 40)
				taken := holds(s, cond)
				to := func(pc uint32) func(s *state) {
					return func(s *state) {
						s.pc = 24
						if taken {
							s.pc = pc
						}
						if taken && u {
							s.regs.R[15] = 24
						}
					}
				}
				one{name: "by a register", i: api.Instr{Kind: api.InBr, Op: cond, C: 6, U: u}, pc: 20, regs: s, change: to(40)}.try(t)
				one{name: "by a number", i: api.Instr{Kind: api.InJmp, Op: cond, Imm: 5, U: u}, pc: 20, regs: s, change: to(44)}.try(t)
				one{name: "by a number below 0", i: api.Instr{Kind: api.InJmp, Op: cond, Imm: -5, U: u}, pc: 20, regs: s, change: to(4)}.try(t)
				s.R[15] = 48
				one{name: "by R15", i: api.Instr{Kind: api.InBr, Op: cond, C: 15, U: u}, pc: 20, regs: s, change: to(48)}.try(t)
			}
		}
	}
}

func TestWhereBranchesGo(t *testing.T) {
	for _, c := range []struct {
		name string
		pc   uint32
		imm  int
		want uint32
	}{
		{"to the next one", 8, 0, 12},
		{"to itself", 8, -1, 8},
		{"one on", 8, 1, 16},
		{"one back", 8, -2, 4},
		{"to the first one", 60, -16, 0},
		{"to the last one", 0, 14, 60},
		{"behind the last one", 0, 15, 64},
		{"from the last one on", 60, 0, 64},
		{"round", 0, -2, 0xFFFFFFFC},
		{"round to a port", 0, -17, api.PortIn},
		{"round, further", 8, -100, 0xFFFFFE7C},
		{"as far as may be", 4, 8388607, 0x2000004},
		{"as far back as may be", 4, -8388608, 0xFE000008},
	} {
		for _, u := range []bool{false, true} {
			one{name: c.name, i: api.Instr{Kind: api.InJmp, Op: 7, Imm: c.imm, U: u}, pc: c.pc, regs: full(9), change: func(s *state) {
				if u {
					s.regs.R[15] = c.pc + 4
				}
				s.pc = c.want
			}}.try(t)
			// The same places, by each register.
			for r := range 16 {
				one{name: c.name, i: api.Instr{Kind: api.InBr, Op: 7, C: r, U: u}, pc: c.pc, regs: with(9, uint32(r), c.want), change: func(s *state) {
					if u {
						s.regs.R[15] = c.pc + 4
					}
					s.pc = c.want
				}}.try(t)
			}
		}
	}
}

// TestBranchesToNowhere has the trap come in the step behind the branch, at the address where it went.
func TestBranchesToNowhere(t *testing.T) {
	for _, c := range []struct {
		to   uint32
		trap int
	}{
		{8, api.TrMem}, {12, api.TrMem}, {1, api.TrAlign}, {2, api.TrAlign}, {3, api.TrAlign}, {9, api.TrAlign}, {api.PortIn, api.TrMem}, {api.PortOut, api.TrMem}, {api.PortHalt, api.TrMem}, {0xFFFFFFFC, api.TrMem}, {0xFFFFFFFF, api.TrAlign}, {0x80000000, api.TrMem},
	} {
		m := fresh(t, 2, 5)
		place(t, m, 0, word(t, api.Instr{Kind: api.InBr, Op: 7, C: 1, U: true}))
		m.Start(0, with(0, 1, c.to))
		if got := m.Step(); got != api.Running || m.PC() != c.to || m.Regs().R[15] != 4 {
			t.Errorf("to %X: %d, PC %X", c.to, got, m.PC())
		}
		want := stateOf(m)
		want.status = c.trap
		if got := m.Step(); got != c.trap {
			t.Errorf("at %X: %d, want %d", c.to, got, c.trap)
		}
		check(t, "nowhere", m, want)
	}
}

func TestTrapsOfPC(t *testing.T) {
	for _, count := range []int{1, 2, 16, 4095, 4096} {
		end := uint32(4 * count)
		one{name: "the first word", i: mov(1, 5), count: count, change: goesOn(func(s *api.Regs) { s.R[1] = 5 })}.try(t)
		one{name: "the last word", i: mov(1, 5), count: count, pc: end - 4, change: goesOn(func(s *api.Regs) { s.R[1] = 5 })}.try(t)
		for _, pc := range []uint32{end, end + 4, 1 << 14, 1 << 31, 1<<31 + 4, api.PortIn, api.PortOut, api.PortHalt, 0xFFFFFFFC} {
			one{name: "beyond", i: mov(1, 5), count: count, pc: pc, regs: full(15), in: []uint32{5}, left: 1, status: api.TrMem}.try(t)
		}
		for _, pc := range []uint32{1, 2, 3, end - 3, end - 2, end - 1, end + 1, end + 2, 1<<31 + 1, api.PortIn + 1, 0xFFFFFFFF} {
			one{name: "not aligned", i: mov(1, 5), count: count, pc: pc, regs: full(15), in: []uint32{5}, left: 1, status: api.TrAlign}.try(t)
		}
	}
}

func TestAMachineWithoutWords(t *testing.T) {
	for _, pc := range []uint32{0, 4, 2, 0xFFFFFFFC, api.PortIn} {
		want := api.TrMem
		if pc%4 != 0 {
			want = api.TrAlign
		}
		m := fresh(t, 0, 5)
		m.Start(pc, full(3))
		if got := m.Step(); got != want {
			t.Errorf("at %X: %d", pc, got)
		}
		check(t, "no words", m, state{status: want, pc: pc, regs: full(3)})
	}
	var none Machine
	if got := none.Run(9); got != api.TrMem || none.Place(0, []uint32{1}) != api.ErrBase || len(none.Words()) != 0 || len(none.Out()) != 0 {
		t.Errorf("one that was not made: %d", got)
	}
}

func TestWordsThatAreNoInstruction(t *testing.T) {
	named := []uint32{0x000C0000, 0x010C0000, 0x000F0000, 0x00000010, 0x00008000, 0x10000000, 0x20000001, 0x30000010, 0x20010000, 0x00100000, 0x400C0000, 0x600F0000, 0x60010000, 0x40100000, 0x70000001, 0x7000FFFF, 0xC0000010, 0xC0100000, 0xD0800000}
	for _, w := range named {
		if i, is := isa.Decode(w); is {
			t.Fatalf("%08X is %+v", w, i)
		}
	}
	for _, w := range append(named, mixed(300)...) {
		if _, is := isa.Decode(w); is {
			continue
		}
		for _, pc := range []uint32{0, 20, 60} {
			one{name: "no instruction", w: w, pc: pc, regs: full(10), in: []uint32{5, 6}, left: 2, status: api.TrIll}.try(t)
		}
	}
}

func TestDivisionsThatTrap(t *testing.T) {
	for _, n := range []uint32{0, 0xFFFFFFFF, 0xFFFFFFFE, 0xFFFF0000, 0x80000000, 0x80000001} {
		for _, b := range []uint32{0, 1, 7, 0x80000000, 0xFFFFFFFF} {
			s := with(12, 1, b, 2, n)
			one{name: "by a register", i: api.Instr{Kind: api.InReg, Op: api.OpDiv, A: 3, B: 1, C: 2}, pc: 8, regs: s, in: []uint32{5}, left: 1, status: api.TrDiv}.try(t)
			if imm := int(int32(n)); -65536 <= imm {
				one{name: "by a number", i: api.Instr{Kind: api.InImm, Op: api.OpDiv, A: 3, B: 1, Imm: imm}, pc: 8, regs: s, in: []uint32{5}, left: 1, status: api.TrDiv}.try(t)
			}
		}
	}
}

// P6.3

// loop counts R1 down from an input, puts each number out, and stops by the last instruction.
func loop(t *testing.T, last api.Instr, from uint32) *Machine {
	t.Helper()
	m := fresh(t, 8, from)
	place(t, m, 0, code(t,
		ldw(1, portIn),
		stw(1, portOut),
		add(1, 1, -1),
		api.Instr{Kind: api.InJmp, Op: 9, Imm: -3},
		last,
	)...)
	return m
}

func TestRunIsSoManySteps(t *testing.T) {
	for name, c := range map[string]struct {
		last   api.Instr
		status int
		pc     uint32
	}{
		"until it halts": {stw(0, portHalt), api.Halted, 20},
		"until it traps": {ldw(0, 1), api.TrAlign, 16},
	} {
		const all = 1 + 3*4 + 1
		for fuel := range all + 5 {
			m, stepped := loop(t, c.last, 4), loop(t, c.last, 4)
			for range fuel {
				stepped.Step()
			}
			if got := m.Run(fuel); got != stepped.Status() || (got == api.Running) != (fuel < all) {
				t.Errorf("%s: Run(%d) = %d", name, fuel, got)
			}
			check(t, name, m, stateOf(stepped))
		}
		for _, fuel := range []int{all, all + 1, 1 << 32, math.MaxInt} {
			m := loop(t, c.last, 4)
			if got := m.Run(fuel); got != c.status || m.PC() != c.pc || !slices.Equal(m.Out(), []uint32{4, 3, 2, 1}) {
				t.Errorf("%s: Run(%d) = %d, PC %d, %d", name, fuel, got, m.PC(), m.Out())
			}
		}
	}
}

func TestRunOfNoSteps(t *testing.T) {
	for _, fuel := range []int{0, -1, -2, -1 << 32, math.MinInt} {
		m := loop(t, stw(0, portHalt), 4)
		want := stateOf(m)
		if got := m.Run(fuel); got != api.Running {
			t.Errorf("Run(%d) = %d", fuel, got)
		}
		check(t, "no steps", m, want)
		m.Run(5)
		want = stateOf(m)
		if got := m.Run(fuel); got != api.Running {
			t.Errorf("Run(%d) = %d", fuel, got)
		}
		check(t, "no steps more", m, want)
	}
}

func TestTwoRunsAreOne(t *testing.T) {
	for first := range 18 {
		for second := range 18 {
			two, whole := loop(t, stw(0, portHalt), 4), loop(t, stw(0, portHalt), 4)
			two.Run(first)
			if got, want := two.Run(second), whole.Run(first+second); got != want {
				t.Errorf("Run(%d), Run(%d) = %d, want %d", first, second, got, want)
			}
			check(t, "two runs", two, stateOf(whole))
		}
	}
}

func TestALoopWithoutAnEndStopsWithItsFuel(t *testing.T) {
	m := fresh(t, 2)
	place(t, m, 0, code(t, add(1, 1, 1), jmp(-2))...)
	for _, fuel := range []int{1, 2, 3, 1000, 99999} {
		m.Start(0, api.Regs{})
		if got := m.Run(fuel); got != api.Running || m.Regs().R[1] != uint32(fuel+1)/2 || m.PC() != uint32(fuel%2)*4 {
			t.Errorf("Run(%d) = %d, R1 is %d, PC %d", fuel, got, m.Regs().R[1], m.PC())
		}
	}
}

func TestASubroutine(t *testing.T) {
	m := fresh(t, 12, 20, 22)
	place(t, m, 0, code(t,
		api.Instr{Kind: api.InJmp, Op: 7, Imm: 4, U: true},
		api.Instr{Kind: api.InReg, Op: api.OpMov, A: 2, C: 1},
		api.Instr{Kind: api.InJmp, Op: 7, Imm: 2, U: true},
		api.Instr{Kind: api.InReg, Op: api.OpAdd, A: 1, B: 1, C: 2},
		jmp(2),
		ldw(1, portIn),
		api.Instr{Kind: api.InBr, Op: 7, C: 15},
		stw(1, portOut),
		stw(1, portHalt),
	)...)
	words := m.Words()
	if got := m.Run(100); got != api.Halted {
		t.Errorf("Run = %d", got)
	}
	check(t, "a subroutine", m, state{api.Halted, 36, api.Regs{R: [16]uint32{1: 42, 2: 20, 15: 12}}, words, []uint32{42}})
}

// R7: what is handed in, and what is told, is the caller's own

func TestInputsAreTheCallersOwn(t *testing.T) {
	in := []uint32{5, 6, 7, 8}
	first, second := fresh(t, 3, in...), fresh(t, 3, in...)
	piece, e := New(3, in[:2])
	if e != api.OK {
		t.Fatal(e)
	}
	for _, m := range []*Machine{first, second, piece} {
		place(t, m, 0, code(t, ldw(1, portIn), stw(1, portOut), jmp(-3))...)
		m.Run(3)
	}
	if !slices.Equal(in, []uint32{5, 6, 7, 8}) {
		t.Errorf("the inputs have changed: %d", in)
	}
	for n := range in {
		in[n] = 99
	}
	for _, m := range []*Machine{first, second} {
		if got := inputsLeft(t, m); !slices.Equal(got, []uint32{6, 7, 8}) {
			t.Errorf("the inputs left are %d", got)
		}
	}
	if got := inputsLeft(t, piece); !slices.Equal(got, []uint32{6}) {
		t.Errorf("the inputs left of a piece are %d", got)
	}
}

func TestInputsHandedInAreCopied(t *testing.T) {
	in := []uint32{5, 6}
	m, e := New(3, in)
	if e != api.OK {
		t.Fatal(e)
	}
	in[0], in[1] = 98, 99
	if got := inputsLeft(t, m); !slices.Equal(got, []uint32{5, 6}) {
		t.Errorf("the inputs have changed with the caller's: %d", got)
	}
}

func TestWhatWasPlacedIsTheCallersOwn(t *testing.T) {
	m := fresh(t, 3)
	l := code(t, stw(1, 8), stw(1, 4), mov(3, 3))
	was := slices.Clone(l)
	place(t, m, 0, l...)
	if e := m.Place(0, l); e != api.OK {
		t.Fatal(e)
	}
	m.Start(0, with(0, 0, 0))
	m.Run(2)
	if !slices.Equal(l, was) {
		t.Errorf("what was placed has changed with the memory: %X", l)
	}
	words := m.Words()
	clear(l)
	if got := m.Words(); !slices.Equal(got, words) || got[0] != was[0] {
		t.Errorf("the memory has changed with what was placed: %X", got)
	}
}

func TestWhatIsToldIsTheCallersOwn(t *testing.T) {
	m := loop(t, stw(0, portHalt), 9)
	var outs [][]uint32
	for n := range 9 {
		m.Run(3)
		outs = append(outs, m.Out())
		words, out, regs := m.Words(), m.Out(), m.Regs()
		want := stateOf(m)
		for k := range words {
			words[k] = 0xDEADBEEF
		}
		for k := range out {
			out[k] = 0xDEADBEEF
		}
		// What is put behind a list that was told is not seen either.
		_ = append(words, 1, 2, 3)
		_ = append(m.Out(), 0xDEADBEEF, 0xDEADBEEF)
		regs.R[1] = 0xDEADBEEF
		check(t, "once what was told has changed", m, want)
		if len(out) != n+1 {
			t.Errorf("%d outputs, want %d", len(out), n+1)
		}
	}
	for n, out := range outs {
		if !slices.Equal(out, []uint32{9, 8, 7, 6, 5, 4, 3, 2, 1}[:n+1]) {
			t.Errorf("what was told has changed with the machine: %d", out)
		}
	}
	before := m.Words()
	was := slices.Clone(before)
	place(t, m, 0, mixed(8)...)
	if !slices.Equal(before, was) {
		t.Errorf("the words that were told have changed with the machine: %X", before)
	}
}

func TestMachinesAreApart(t *testing.T) {
	first, second := loop(t, stw(0, portHalt), 3), loop(t, stw(0, portHalt), 3)
	want := stateOf(second)
	first.Run(99)
	place(t, first, 0, 1, 2, 3)
	check(t, "the other one", second, want)
	if second.Run(99) != api.Halted || !slices.Equal(second.Out(), []uint32{3, 2, 1}) {
		t.Errorf("the other one: %+v", stateOf(second))
	}
}

// Programs that a fixed rule spreads, against a machine on paper

// paper is a machine of bytes, as the chapter tells it, without a memory of the program's.
type paper struct {
	bytes   []byte
	regs    api.Regs
	pc      uint32
	status  int
	in, out []uint32
}

func (p *paper) words() []uint32 {
	var l []uint32
	for at := 0; at < len(p.bytes); at += 4 {
		l = append(l, p.word(uint32(at)))
	}
	return l
}

func (p *paper) word(at uint32) uint32 {
	b := p.bytes[at : at+4]
	return uint32(b[0]) + uint32(b[1])<<8 + uint32(b[2])<<16 + uint32(b[3])<<24
}

func (p *paper) setWord(at, x uint32) {
	for k := range uint32(4) {
		p.bytes[at+k] = byte(x >> (8 * k))
	}
}

func (p *paper) trapOfWord(at uint32) int {
	if at%4 != 0 {
		return api.TrAlign
	}
	return p.trapOfByte(at)
}

func (p *paper) trapOfByte(at uint32) int {
	if int64(at) >= int64(len(p.bytes)) {
		return api.TrMem
	}
	return api.Running
}

func (p *paper) step() {
	if p.status != api.Running {
		return
	}
	if p.status = p.trapOfWord(p.pc); p.status != api.Running {
		return
	}
	i, is := isa.Decode(p.word(p.pc))
	switch {
	case !is:
		p.status = api.TrIll
	case i.Kind == api.InMem && (i.Op == api.MmLdw || i.Op == api.MmLdb):
		p.load(i)
	case i.Kind == api.InMem:
		p.store(i)
	case i.Kind == api.InBr || i.Kind == api.InJmp:
		p.branch(i)
	default:
		if p.regs, p.status = alu.Do(p.regs, i); p.status == api.Running {
			p.pc += 4
		}
	}
}

func (p *paper) load(i api.Instr) {
	at := uint32(int64(p.regs.R[i.B]) + int64(i.Imm))
	var x uint32
	switch {
	case i.Op == api.MmLdw && at == api.PortIn:
		if len(p.in) > 0 {
			x, p.in = p.in[0], p.in[1:]
		}
	case i.Op == api.MmLdw:
		if p.status = p.trapOfWord(at); p.status == api.Running {
			x = p.word(at)
		}
	default:
		if p.status = p.trapOfByte(at); p.status == api.Running {
			x = uint32(p.bytes[at])
		}
	}
	if p.status == api.Running {
		p.regs.R[i.A], p.regs.N, p.regs.Z = x, int32(x) < 0, x == 0
		p.pc += 4
	}
}

func (p *paper) store(i api.Instr) {
	at, x := uint32(int64(p.regs.R[i.B])+int64(i.Imm)), p.regs.R[i.A]
	switch {
	case i.Op == api.MmStw && at == api.PortOut:
		p.out = append(p.out, x)
	case i.Op == api.MmStw && at == api.PortHalt:
		p.status = api.Halted
	case i.Op == api.MmStw:
		if p.status = p.trapOfWord(at); p.status == api.Running {
			p.setWord(at, x)
		}
	default:
		if p.status = p.trapOfByte(at); p.status == api.Running {
			p.bytes[at] = byte(x % 256)
		}
	}
	if p.status == api.Running || p.status == api.Halted {
		p.pc += 4
	}
}

func (p *paper) branch(i api.Instr) {
	was := p.pc
	switch {
	case !holds(p.regs, i.Op):
		p.pc = was + 4
		return
	case i.Kind == api.InBr:
		p.pc = p.regs.R[i.C]
	default:
		p.pc = uint32(int64(was) + 4 + 4*int64(i.Imm))
	}
	if i.U {
		p.regs.R[15] = was + 4
	}
}

// steps is a fixed rule that spreads numbers.
type steps uint32

func (s *steps) below(n int) int {
	*s ^= *s << 13
	*s ^= *s >> 17
	*s ^= *s << 5
	return int(uint32(*s) % uint32(n))
}

func (s *steps) word() uint32 {
	x := uint32(s.below(1 << 31))
	switch s.below(8) {
	case 0:
		return x%64 - 8
	case 1, 2:
		return x % 24 * 4
	case 3:
		return 1<<31 | x
	case 4:
		return api.PortIn + x%3*4
	}
	return x
}

// instruction tells one that may be, most of them near the words of a small memory, or the ports.
func (s *steps) instruction() uint32 {
	for {
		i := api.Instr{Kind: 1 + s.below(7), Op: s.below(12), A: s.below(16), B: s.below(16), C: s.below(16), U: s.below(2) == 0}
		switch i.Kind {
		case api.InReg:
			i.B *= min(i.Op, 1)
		case api.InImm:
			i.C, i.Imm = 0, s.below(80)-16
			i.B *= min(i.Op, 1)
		case api.InHi, api.InFl:
			i = api.Instr{Kind: i.Kind, A: i.A}
		case api.InMem:
			i.C, i.U, i.Op = 0, false, i.Op%4
			// R0 is 0 often; words and bytes, below and above 0.
			i.B *= s.below(2)
			i.Imm = [...]int{portIn, portOut, s.below(24) * 4, s.below(100) - 8}[s.below(4)]
			if s.below(40) == 0 {
				i.Imm = portHalt
			}
		case api.InBr:
			i.A, i.B, i.Op = 0, 0, s.below(16)
		case api.InJmp:
			i.A, i.B, i.C, i.Op, i.Imm = 0, 0, 0, s.below(16), s.below(12)-5
		}
		if w, e := isa.Encode(i); e == api.OK {
			return w
		}
	}
}

func TestSpreadPrograms(t *testing.T) {
	s := steps(2463534242)
	ways := map[int]int{}
	for range 4000 {
		count := 1 + s.below(24)
		m, p := spread(t, &s, count)
		for range 6 {
			started(&s, m, p)
			for range 40 {
				p.step()
				if got := m.Step(); got != p.status {
					t.Fatalf("Step = %d, want %d", got, p.status)
				}
				check(t, "a spread program", m, state{p.status, p.pc, p.regs, p.words(), p.out})
				if t.Failed() {
					return
				}
			}
			ways[p.status]++
		}
	}
	for status := api.Running; status <= api.TrDiv; status++ {
		if ways[status] < 50 {
			t.Errorf("only %d spread programs came to %d", ways[status], status)
		}
	}
}

// spread makes a machine and one on paper, of the same words and inputs.
func spread(t *testing.T, s *steps, count int) (*Machine, *paper) {
	var in, l []uint32
	for range s.below(5) {
		in = append(in, s.word())
	}
	for range count {
		w := s.instruction()
		if s.below(30) == 0 {
			w = s.word()
		}
		l = append(l, w)
	}
	m, p := fresh(t, count, in...), &paper{bytes: make([]byte, 4*count), in: in}
	place(t, m, 0, l...)
	for n, w := range l {
		p.setWord(uint32(4*n), w)
	}
	return m, p
}

// started starts both anew, at a word that there is.
func started(s *steps, m *Machine, p *paper) {
	var regs api.Regs
	for r := range regs.R {
		regs.R[r] = s.word()
	}
	regs.R[0] *= uint32(s.below(4)) / 3
	regs.H, regs.N, regs.Z, regs.C, regs.V = s.word(), s.below(2) == 0, s.below(2) == 0, s.below(2) == 0, s.below(2) == 0
	p.pc = uint32(4 * s.below(len(p.bytes)/4))
	p.regs, p.status = regs, api.Running
	m.Start(p.pc, regs)
}
