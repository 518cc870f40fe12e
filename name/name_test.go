package name

import (
	"fmt"
	"math"
	"regexp"
	"strings"
	"sync"
	"testing"

	"rivet/api"
)

const (
	capitals = "ABCDEFGHIJKLMNOPQRSTUVWXYZ"
	smalls   = "abcdefghijklmnopqrstuvwxyz"
	digits   = "0123456789"
	firsts   = capitals + smalls + "_"
	laters   = firsts + digits
)

// spread tells numbers of a fixed rule, the same ones in each run.
func spread() func() uint32 {
	x := uint32(2463534242)
	return func() uint32 {
		x ^= x << 13
		x ^= x >> 17
		x ^= x << 5
		return x
	}
}

// farNumbers are beyond all kinds, operations and registers; in fewer bits some of them are among these.
func farNumbers() []int {
	return []int{
		-1, -2, -7, -15, -16, -17, -128, -255, -256, -257, -65536, 1 - 65536, -1 << 31, 1 - 1<<32, -1 << 32, math.MinInt + 1, math.MinInt + 7, math.MinInt,
		16, 17, 31, 32, 48, 100, 127, 128, 255, 256, 257, 263, 65535, 65536, 65537, 65543,
		1<<31 - 1, 1 << 31, 1<<31 + 7, 1<<32 - 1, 1 << 32, 1<<32 + 1, 1<<32 + 7, 1 << 48, 1 << 62, math.MaxInt - 1, math.MaxInt,
	}
}

// isWrong are texts that are like s, but for one thing: none of them is s.
func isWrong(s string) []string {
	return []string{
		s + s, s + " ", " " + s, s + "\n", "\n" + s, s + "\t", s + "\x00", "\x00" + s, s + ".", "." + s, s + ",", s + ":", s + "_", "_" + s,
		s + "0", "0" + s, s + "1", s + "\u00e9", "\u00e9" + s, s + "\xff", "\xff" + s, s + "\u200b", "\ufeff" + s, s + "\u0301", `"` + s + `"`, "(" + s + ")",
	}
}

// P13.1: registers

// registerNames are all that there are, written out.
func registerNames() []string {
	return []string{"R0", "R1", "R2", "R3", "R4", "R5", "R6", "R7", "R8", "R9", "R10", "R11", "R12", "R13", "R14", "R15"}
}

func regIs(t *testing.T, s string, want int) {
	t.Helper()
	if n, ok := Reg(s); n != want || !ok {
		t.Errorf("Reg(%q) = %d, %v, want %d", s, n, ok, want)
	}
}

// isNoReg asks for the false, and that nothing else is told beside it (R2).
func isNoReg(t *testing.T, s string) {
	t.Helper()
	if n, ok := Reg(s); n != 0 || ok {
		t.Errorf("Reg(%.40q) = %d, %v, want 0, false", s, n, ok)
	}
}

// holdReg asks for P13.1 of any text, registers being all that there are.
func holdReg(t *testing.T, registers map[string]int, s string) {
	t.Helper()
	if n, ok := registers[s]; ok {
		regIs(t, s, n)
	} else {
		isNoReg(t, s)
	}
}

func registerNumbers() map[string]int {
	all := map[string]int{}
	for n, s := range registerNames() {
		all[s] = n
	}
	return all
}

func TestEachRegisterBothWays(t *testing.T) {
	for n, s := range registerNames() {
		if got := RegName(n); got != s {
			t.Errorf("RegName(%d) = %q, want %q", n, got, s)
		}
		regIs(t, s, n)
	}
}

func TestRegNameOfNumbersOfNoRegister(t *testing.T) {
	for _, n := range farNumbers() {
		if s := RegName(n); s != "" {
			t.Errorf("RegName(%d) = %q, want it empty", n, s)
		}
	}
}

func TestRegNameAroundAllRegisters(t *testing.T) {
	for n := -300; n <= 300; n++ {
		want := ""
		if n >= 0 && n <= 15 {
			want = fmt.Sprintf("R%d", n)
		}
		if s := RegName(n); s != want {
			t.Errorf("RegName(%d) = %q, want %q", n, s, want)
		}
	}
}

func TestRegOfTextsOfNoRegister(t *testing.T) {
	for _, s := range []string{
		"", " ", "R", "RR", "r", "0", "1", "15", "1R", "0R", "R16", "R17", "R19", "R20", "R25", "R90", "R99", "R100", "R150", "R015", "R115", "R151",
		"R00", "R01", "R02", "R09", "R000", "R001", "R010", "R0000000001", "R4294967296", "R4294967297", "R18446744073709551616", "R18446744073709551617",
		"r0", "r1", "r9", "r10", "r15", "Q1", "S1", "PC", "SP", "LR", "H", "MOV",
		"R-0", "R-1", "R+0", "R+1", "R+15", "R 1", "R1 ", " R1", "R_1", "R1_", "R1_0", "R.1", "R1.", "R1.0", "R,1", "R'1'", "R1,", "R(1)", "R[1]",
		"R0x1", "R0xF", "R0b1", "R0o7", "R0x0", "R1e0", "RA", "RF", "RX", "RI", "RO", "RIV", "Rl", "Ro", "R1R", "RR1", "R1R1", "R/", "R:", "R1/", "R1:", "R;",
		"R1\x00", "\x00R1", "R\x001", "R1\n", "R1\r", "R1\t", "R1\xff", "R\xb1", "\xd21", "R\uff11", "R\u0967", "R\u00b2", "R\u2460", "\uff321", "\u2160", "R1\u0301",
		strings.Repeat("R", 1000), strings.Repeat("R1", 1000), "R" + strings.Repeat("0", 1<<20), "R1" + strings.Repeat(" ", 1<<20), "R" + strings.Repeat("1", 1<<20),
	} {
		isNoReg(t, s)
	}
	for _, s := range registerNames() {
		for _, wrong := range append(isWrong(s), strings.ToLower(s), s[:1], s[1:], s[:1]+"0"+s[1:], s[:1]+" "+s[1:], s[:1]+"+"+s[1:]) {
			if _, ok := registerNumbers()[wrong]; !ok {
				isNoReg(t, wrong)
			}
		}
	}
}

func TestRegOfEachNumberOfDigits(t *testing.T) {
	all := registerNumbers()
	for n := range 1000 {
		for _, form := range []string{"R%d", "R%02d", "R%03d", "R%04d", "r%d", "R-%d", "R+%d", "R%x", "R%X", "R%o", "%dR", "%d", "R%dR", "R%d0", "R0%d", "R1%d"} {
			holdReg(t, all, fmt.Sprintf(form, n))
		}
	}
}

func TestRegOfEachShortText(t *testing.T) {
	all := registerNumbers()
	for one := range 256 {
		holdReg(t, all, string([]byte{byte(one)}))
		for two := range 256 {
			holdReg(t, all, string([]byte{byte(one), byte(two)}))
			holdReg(t, all, string([]byte{'R', byte(one), byte(two)}))
			holdReg(t, all, string([]byte{byte(one), '1', byte(two)}))
		}
	}
}

// P13.2: labels

// labelForms are P13.2, written as patterns.
func labelForms() (label, register *regexp.Regexp) {
	return regexp.MustCompile(`\A[A-Za-z_][A-Za-z0-9_]{0,11}\z`), regexp.MustCompile(`\AR[0-9][0-9]?\z`)
}

func TestLabelOfNamedTexts(t *testing.T) {
	for _, c := range []struct {
		s    string
		want bool
	}{
		{"", false},
		{"a", true}, {"z", true}, {"A", true}, {"Z", true}, {"m", true}, {"R", true}, {"r", true}, {"_", true},
		{"0", false}, {"1", false}, {"9", false}, {" ", false}, {"\x00", false}, {".", false}, {":", false}, {"-", false}, {"@", false}, {"=", false},
		{"ab", true}, {"a1", true}, {"a_", true}, {"a__9", true}, {"Z9_", true}, {"loop_2B", true}, {"a_________9", true},
		{"_a", true}, {"_A", true}, {"_1", true}, {"_9", true}, {"__", true}, {"_R1", true}, {"_0_", true}, {"____________", true}, {"_23456789012", true},
		{"9a", false}, {"0_", false}, {"12", false}, {"1a", false}, {"1R", false}, {"0x1", false},
		{"a b", false}, {"a-b", false}, {" a", false}, {"a ", false}, {"a\x00", false}, {"\x00a", false}, {"a\n", false}, {"\na", false}, {".a", false}, {"a.b", false}, {"a:", false}, {"a@", false}, {"a[", false}, {"a`", false}, {"a{", false}, {"a/", false}, {"a^", false},
		{"abcdefghijk", true}, {"abcdefghijkl", true}, {"ABCDEFGHIJKL", true}, {"a23456789012", true}, {"a___________", true},
		{"abcdefghijk-", false}, {"abcdefghijk\x80", false}, {"-bcdefghijkl", false}, {"1bcdefghijkl", false}, {"abcdef-hijkl", false},
		{"abcdefghijklm", false}, {"a234567890123", false}, {"R234567890123", false}, {"_____________", false}, {"abcdefghijkl_", false},
		{"abcdefghijkl\x00", false}, {"abcdefghijkl ", false}, {strings.Repeat("a", 24), false}, {strings.Repeat("a", 255), false}, {strings.Repeat("a", 256), false}, {strings.Repeat("a", 257), false}, {strings.Repeat("a", 268), false}, {strings.Repeat("a", 1<<16+1), false}, {strings.Repeat("_", 1<<20), false},
		{"R0", false}, {"R1", false}, {"R9", false}, {"R00", false}, {"R01", false}, {"R09", false}, {"R10", false}, {"R15", false}, {"R16", false}, {"R17", false}, {"R90", false}, {"R99", false},
		{"R000", true}, {"R001", true}, {"R100", true}, {"R015", true}, {"R150", true}, {"R999", true}, {"R1234567890", true}, {"R12345678901", true}, {"R123456789012", false},
		{"Ra", true}, {"Rx", true}, {"RR", true}, {"R_", true}, {"R_1", true}, {"R1_", true}, {"R1a", true}, {"Ra1", true}, {"R12a", true}, {"R1_2", true}, {"RR1", true}, {"R1R1", true}, {"R__", true}, {"Rab", true}, {"R1A", true}, {"R12_", true}, {"R0x", true},
		{"R/", false}, {"R:", false}, {"R1/", false}, {"R1:", false}, {"R/1", false}, {"R-1", false}, {"R+1", false}, {"R 1", false}, {"R1 ", false}, {" R1", false},
		{"r0", true}, {"r1", true}, {"r15", true}, {"r16", true}, {"r99", true}, {"r100", true}, {"Q1", true}, {"S1", true}, {"Q15", true}, {"S15", true},
		{"H", true}, {"MOV", true}, {"ADD", true}, {"B", true}, {"BL", true}, {"BLLT", true}, {"LDL", true}, {"word", true}, {"export", true},
		{"a\xc3", false}, {"\xc3a", false}, {"\xc3\xa9", false}, {"a\xc3\xa9", false}, {"\xff", false}, {"a\x80", false}, {"a\xff", false}, {"R\xb1", false}, {"\xd2", false}, {"\xe1", false}, {"a\xe1", false}, {"\xdf", false}, {"a\xdf", false},
		{"\u00e9", false}, {"a\u00e9", false}, {"a\u03b2", false}, {"a\uff11", false}, {"a\u0430", false}, {"\uff41", false}, {"\uff3f", false}, {"a\uff3f", false}, {"\u017f", false}, {"\u212a", false}, {"a\u212a", false}, {"R\uff11", false}, {"a\ufeff", false}, {"a\u200b", false},
	} {
		if got := Label(c.s); got != c.want {
			t.Errorf("Label(%.40q) = %v, want %v", c.s, got, c.want)
		}
	}
}

// The bytes just beside the letters, the digits and the underscore are written out, so that this hangs on no pattern.
func TestBytesBesideThoseOfLabels(t *testing.T) {
	for _, c := range []struct {
		c            byte
		first, later bool
	}{
		{'/', false, false}, {'0', false, true}, {'5', false, true}, {'9', false, true}, {':', false, false},
		{'@', false, false}, {'A', true, true}, {'Q', true, true}, {'Z', true, true}, {'[', false, false},
		{'^', false, false}, {'_', true, true}, {'`', false, false},
		{'a', true, true}, {'q', true, true}, {'z', true, true}, {'{', false, false},
		{0, false, false}, {127, false, false}, {128, false, false}, {255, false, false},
		{'0' + 128, false, false}, {'A' + 128, false, false}, {'_' + 128, false, false}, {'a' + 128, false, false},
	} {
		one := string([]byte{c.c})
		for _, s := range []string{one, one + "b", one + "_9", one + "bcdefghijkl"} {
			if got := Label(s); got != c.first {
				t.Errorf("Label(%q) = %v, want %v", s, got, c.first)
			}
		}
		for _, s := range []string{"a" + one, "a" + one + "b", "ab" + one, "_" + one + "_", "abcdefghijk" + one, "a" + one + "cdefghijkl"} {
			if got := Label(s); got != c.later {
				t.Errorf("Label(%q) = %v, want %v", s, got, c.later)
			}
		}
	}
}

// holdLabel asks for P13.2 of any text.
func holdLabel(t *testing.T, label, register *regexp.Regexp, s string) {
	t.Helper()
	want := label.MatchString(s) && !register.MatchString(s)
	if got := Label(s); got != want {
		t.Fatalf("Label(%.40q) = %v, want %v", s, got, want)
	}
}

func TestLabelOfEachShortText(t *testing.T) {
	label, register := labelForms()
	for one := range 256 {
		holdLabel(t, label, register, string([]byte{byte(one)}))
		for two := range 256 {
			holdLabel(t, label, register, string([]byte{byte(one), byte(two)}))
			holdLabel(t, label, register, string([]byte{'R', byte(one), byte(two)}))
			holdLabel(t, label, register, string([]byte{'r', byte(one), byte(two)}))
			holdLabel(t, label, register, string([]byte{'R', '1', byte(one), byte(two)}))
		}
	}
}

func TestLabelOfEachByteAtEachPlace(t *testing.T) {
	label, register := labelForms()
	for size := 1; size <= 14; size++ {
		for _, from := range []string{"RrZz09_aAmM5bB", "______________", "R1234567890123", "a1b2c3d4e5f6g7"} {
			for at := range size {
				for c := range 256 {
					s := []byte(from)[:size]
					s[at] = byte(c)
					holdLabel(t, label, register, string(s))
				}
			}
		}
	}
}

// Each count of bytes to beyond the greatest is held, with each kind of byte first.
func TestLabelOfEachLength(t *testing.T) {
	for _, first := range firsts + digits + "-" {
		for size := 1; size <= 600; size++ {
			s := string(first) + strings.Repeat("x", size-1)
			want := size <= 12 && strings.ContainsRune(firsts, first)
			if got := Label(s); got != want {
				t.Fatalf("Label of %q and %d bytes behind = %v, want %v", first, size-1, got, want)
			}
		}
	}
}

func TestLabelOfEachRAndDigits(t *testing.T) {
	for n := range 10000 {
		for size := 1; size <= 4; size++ {
			s := fmt.Sprintf("%0*d", size, n)
			want := len(s) > 2
			if got := Label("R" + s); got != want {
				t.Fatalf("Label(%q) = %v, want %v", "R"+s, got, want)
			}
			if !Label("r"+s) || !Label("_"+s) || Label(s) || Label(s+"R") {
				t.Fatalf("Label of %q with another byte, or none, ahead", s)
			}
		}
	}
}

func TestLabelOfSpreadTexts(t *testing.T) {
	label, register := labelForms()
	next := spread()
	kinds := []string{laters, laters, laters, "R" + digits, laters + " .-:,\x00\x80\xff"}
	for range 50000 {
		from := kinds[next()%5]
		s := make([]byte, next()%15)
		for n := range s {
			s[n] = from[next()%uint32(len(from))]
		}
		holdLabel(t, label, register, string(s))
	}
}

// No register is a label, so that an operand is read one way alone.
func TestNoRegisterIsALabel(t *testing.T) {
	for _, s := range registerNames() {
		if Label(s) {
			t.Errorf("Label(%q) is true", s)
		}
	}
}

// P13.3: mnemonics

// way is a kind, an operation and u.
type way struct {
	kind, op int
	u        bool
}

// allMnemonics is the chapter's table, each of its entries written out by its numbers.
func allMnemonics() map[way]string {
	return map[way]string{
		{1, 0, false}: "MOV", {1, 1, false}: "LSL", {1, 2, false}: "ASR", {1, 3, false}: "ROR", {1, 4, false}: "AND", {1, 5, false}: "ANN",
		{1, 6, false}: "IOR", {1, 7, false}: "XOR", {1, 8, false}: "ADD", {1, 9, false}: "SUB", {1, 10, false}: "MUL", {1, 11, false}: "DIV",
		{1, 0, true}: "MOVU", {1, 8, true}: "ADC", {1, 9, true}: "SBC", {1, 10, true}: "MLU",
		{3, 0, false}: "MOVH", {4, 0, false}: "MOVF",
		{5, 0, false}: "LDW", {5, 1, false}: "LDB", {5, 2, false}: "STW", {5, 3, false}: "STB",
		{7, 0, false}: "BMI", {7, 1, false}: "BEQ", {7, 2, false}: "BCS", {7, 3, false}: "BVS", {7, 4, false}: "BLS", {7, 5, false}: "BLT", {7, 6, false}: "BLE", {7, 7, false}: "B",
		{7, 8, false}: "BPL", {7, 9, false}: "BNE", {7, 10, false}: "BCC", {7, 11, false}: "BVC", {7, 12, false}: "BHI", {7, 13, false}: "BGE", {7, 14, false}: "BGT", {7, 15, false}: "BNV",
		{7, 0, true}: "BLMI", {7, 1, true}: "BLEQ", {7, 2, true}: "BLCS", {7, 3, true}: "BLVS", {7, 4, true}: "BLLS", {7, 5, true}: "BLLT", {7, 6, true}: "BLLE", {7, 7, true}: "BL",
		{7, 8, true}: "BLPL", {7, 9, true}: "BLNE", {7, 10, true}: "BLCC", {7, 11, true}: "BLVC", {7, 12, true}: "BLHI", {7, 13, true}: "BLGE", {7, 14, true}: "BLGT", {7, 15, true}: "BLNV",
		{8, 0, false}: "LDL", {9, 0, false}: "word", {10, 0, false}: "export",
	}
}

// allWays are the same, the other way round.
func allWays() map[string]way {
	all := map[string]way{}
	for w, s := range allMnemonics() {
		all[s] = w
	}
	return all
}

func ofIs(t *testing.T, s string, want way) {
	t.Helper()
	if kind, op, u, ok := Of(s); (way{kind, op, u}) != want || !ok {
		t.Errorf("Of(%q) = %d, %d, %v, %v, want %v", s, kind, op, u, ok, want)
	}
}

// isNoMnemonic asks for the false, and that nothing else is told beside it (R2).
func isNoMnemonic(t *testing.T, s string) {
	t.Helper()
	if kind, op, u, ok := Of(s); kind != 0 || op != 0 || u || ok {
		t.Errorf("Of(%.40q) = %d, %d, %v, %v, want 0, 0, false, false", s, kind, op, u, ok)
	}
}

// holdOf asks for P13.3 of any text.
func holdOf(t *testing.T, all map[string]way, s string) {
	t.Helper()
	if w, ok := all[s]; ok {
		ofIs(t, s, w)
	} else {
		isNoMnemonic(t, s)
	}
}

func mnemonicIs(t *testing.T, w way, want string) {
	t.Helper()
	if s := Mnemonic(w.kind, w.op, w.u); s != want {
		t.Errorf("Mnemonic(%d, %d, %v) = %q, want %q", w.kind, w.op, w.u, s, want)
	}
}

func TestEachMnemonicBothWays(t *testing.T) {
	if len(allMnemonics()) != 57 || len(allWays()) != 57 {
		t.Fatalf("the test's table has %d entries, and %d mnemonics", len(allMnemonics()), len(allWays()))
	}
	for w, s := range allMnemonics() {
		mnemonicIs(t, w, s)
		ofIs(t, s, w)
	}
}

// The names of package api are held against the chapter's mnemonics, too, so that the numbers above are not all that is asked for.
func TestMnemonicsOfNamedOperations(t *testing.T) {
	for s, w := range map[string]way{
		"MOV": {api.InReg, api.OpMov, false}, "LSL": {api.InReg, api.OpLsl, false}, "ASR": {api.InReg, api.OpAsr, false}, "ROR": {api.InReg, api.OpRor, false},
		"AND": {api.InReg, api.OpAnd, false}, "ANN": {api.InReg, api.OpAnn, false}, "IOR": {api.InReg, api.OpIor, false}, "XOR": {api.InReg, api.OpXor, false},
		"ADD": {api.InReg, api.OpAdd, false}, "SUB": {api.InReg, api.OpSub, false}, "MUL": {api.InReg, api.OpMul, false}, "DIV": {api.InReg, api.OpDiv, false},
		"MOVU": {api.InReg, api.OpMov, true}, "ADC": {api.InReg, api.OpAdd, true}, "SBC": {api.InReg, api.OpSub, true}, "MLU": {api.InReg, api.OpMul, true},
		"MOVH": {api.InHi, 0, false}, "MOVF": {api.InFl, 0, false},
		"LDW": {api.InMem, api.MmLdw, false}, "LDB": {api.InMem, api.MmLdb, false}, "STW": {api.InMem, api.MmStw, false}, "STB": {api.InMem, api.MmStb, false},
		"LDL": {api.StLoad, 0, false}, "word": {api.StWord, 0, false}, "export": {api.StExport, 0, false},
	} {
		mnemonicIs(t, w, s)
		ofIs(t, s, w)
	}
}

// BLS could be B and LS, or BL and S: as there is no condition S, it is the first; so it is with each of these.
func TestMnemonicsThatCouldBeReadTwoWays(t *testing.T) {
	for s, w := range map[string]way{
		"B": {7, 7, false}, "BL": {7, 7, true},
		"BLS": {7, 4, false}, "BLT": {7, 5, false}, "BLE": {7, 6, false},
		"BLLS": {7, 4, true}, "BLLT": {7, 5, true}, "BLLE": {7, 6, true},
		"BEQ": {7, 1, false}, "BLEQ": {7, 1, true}, "BLPL": {7, 8, true}, "BPL": {7, 8, false},
		"MOV": {1, 0, false}, "MOVU": {1, 0, true}, "MOVH": {3, 0, false}, "MOVF": {4, 0, false},
		"LDB": {5, 1, false}, "LDL": {8, 0, false}, "LSL": {1, 1, false},
	} {
		ofIs(t, s, w)
		mnemonicIs(t, w, s)
	}
	for _, s := range []string{"S", "T", "E", "L", "LS", "LT", "LE", "BS", "BT", "BE", "BLL", "BLLL", "BLLLS", "BLLLT", "BLBL", "BLB", "BB", "BBL", "BLSL", "BLLSL", "BLAL", "BAL", "BNVS", "BMIL", "BEQL", "BPLL", "LB"} {
		isNoMnemonic(t, s)
	}
}

func TestMnemonicOfEachWayAround(t *testing.T) {
	all := allMnemonics()
	for kind := -20; kind <= 40; kind++ {
		for op := -20; op <= 40; op++ {
			mnemonicIs(t, way{kind, op, false}, all[way{kind, op, false}])
			mnemonicIs(t, way{kind, op, true}, all[way{kind, op, true}])
		}
	}
}

// No kind that has no mnemonic tells one, whatever the operation.
func TestMnemonicOfKindsWithoutOne(t *testing.T) {
	for _, kind := range []int{api.StNone, api.InImm, api.InBr, 11, 12, -1} {
		for op := -1; op <= 16; op++ {
			mnemonicIs(t, way{kind, op, false}, "")
			mnemonicIs(t, way{kind, op, true}, "")
		}
	}
}

func TestMnemonicOfUWhereThereIsNone(t *testing.T) {
	for _, op := range []int{api.OpLsl, api.OpAsr, api.OpRor, api.OpAnd, api.OpAnn, api.OpIor, api.OpXor, api.OpDiv, 12, -1} {
		mnemonicIs(t, way{api.InReg, op, true}, "")
	}
	for _, op := range []int{api.MmLdw, api.MmLdb, api.MmStw, api.MmStb, 4, -1} {
		mnemonicIs(t, way{api.InMem, op, true}, "")
	}
	for _, kind := range []int{api.InHi, api.InFl, api.StLoad, api.StWord, api.StExport} {
		mnemonicIs(t, way{kind, 0, true}, "")
		mnemonicIs(t, way{kind, 1, false}, "")
		mnemonicIs(t, way{kind, -1, false}, "")
	}
}

func TestMnemonicOfFarNumbers(t *testing.T) {
	far := farNumbers()
	for _, a := range far {
		for b := -1; b <= 17; b++ {
			for _, u := range []bool{false, true} {
				mnemonicIs(t, way{a, b, u}, "")
				mnemonicIs(t, way{b, a, u}, "")
			}
		}
		for _, b := range far {
			mnemonicIs(t, way{a, b, false}, "")
			mnemonicIs(t, way{a, b, true}, "")
		}
	}
}

// No two have the same mnemonic, and each comes back to what it was made of.
func TestMnemonicsAreAllUnlike(t *testing.T) {
	first := map[string]way{}
	for kind := -1; kind <= 12; kind++ {
		for op := -1; op <= 17; op++ {
			for _, u := range []bool{false, true} {
				s := Mnemonic(kind, op, u)
				if s == "" {
					continue
				}
				if w, ok := first[s]; ok {
					t.Errorf("%q is the mnemonic of %v, and of %v", s, w, way{kind, op, u})
				}
				first[s] = way{kind, op, u}
				ofIs(t, s, way{kind, op, u})
			}
		}
	}
	if len(first) != 57 {
		t.Errorf("there are %d mnemonics, want 57", len(first))
	}
}

func TestOfTextsThatAreNoMnemonics(t *testing.T) {
	for _, s := range []string{
		"", " ", "\x00", "\n", ".", ":", "-", "_", "0", "1", "7", "A", "H", "L", "M", "R", "U", "R0", "R1", "R15",
		"mov", "Mov", "mOV", "MOv", "movu", "b", "bl", "bL", "Bl", "blt", "Blt", "bLT", "BlT", "BLt", "bllt", "ldw", "Ldw", "ldl", "stb", "adc",
		"WORD", "Word", "worD", "wORD", ".word", "..word", "words", "wor", "ord", "EXPORT", "Export", "export.", ".export", "exports", "expor", "xport",
		"ADDU", "SUBU", "MULU", "DIVU", "ADDC", "SUBC", "LSLU", "MLUU", "ADCU", "SBCU", "MOVUU", "MOVUH", "MOVHU", "MOVFU", "LDWU", "LDBU", "STWU", "STBU", "LDLU", "wordU", "exportU", "BU", "BLU",
		"MOVL", "MOVC", "MOVHF", "MOVI", "MO", "MV", "OV", "MUL1", "DI", "IV", "AN", "ND", "ORR", "OR", "EOR", "BIC", "NOT", "NEG", "CMP", "NOP", "RET", "JMP", "CALL", "HALT",
		"B7", "BL7", "B0", "B15", "B.", "B.LT", "BL.LT", "BLT.", "B LT", "BL LT", "B_LT", "BAL", "BLAL", "BHS", "BLO", "BLHS", "BLLO", "BR", "BX", "BLX", "BLR", "BNVV", "BVN", "BIM", "BQE",
		"MI", "EQ", "CS", "VS", "PL", "NE", "CC", "VC", "HI", "GE", "GT", "NV", "LMI", "LEQ", "LNV",
		"MOV LSL", "MOV,LSL", "MOV\x00", "MOV\n", "MOV\t", " MOV", "MOV ", "\u041c\u041eV", "\uff2d\uff2f\uff36", "MOV\u200b", "\ufeffMOV", "MOV\xff", "\xffMOV", "M\x00V", "BLT\u00e9", "w\u00f6rd", "LD\uff2c",
		strings.Repeat("B", 100), strings.Repeat("BL", 100), strings.Repeat("MOV", 1<<18), "B" + strings.Repeat("L", 1<<20), strings.Repeat("\x00", 3), strings.Repeat("word", 2),
	} {
		isNoMnemonic(t, s)
	}
}

func TestOfMnemonicsWithMoreAroundThem(t *testing.T) {
	all := allWays()
	for s := range all {
		for _, wrong := range isWrong(s) {
			holdOf(t, all, wrong)
		}
		for other := range all {
			holdOf(t, all, s+other)
		}
	}
}

// Letters in the other case, one by one and all of them, make another text.
func TestOfMnemonicsInTheOtherCase(t *testing.T) {
	for s := range allWays() {
		for set := 1; set < 1<<len(s); set++ {
			b := []byte(s)
			for n := range b {
				if set>>n&1 == 1 {
					b[n] ^= 0x20
				}
			}
			isNoMnemonic(t, string(b))
		}
	}
}

// Each byte of each mnemonic is changed to each other, taken out, doubled, set elsewhere, and has one set ahead.
func TestOfMnemonicsWithOneByteElsewhere(t *testing.T) {
	all := allWays()
	for s := range all {
		for at := range len(s) {
			for c := range 256 {
				b := []byte(s)
				b[at] = byte(c)
				holdOf(t, all, string(b))
			}
			holdOf(t, all, s[:at]+s[at+1:])
			holdOf(t, all, s[:at]+s[at:at+1]+s[at:])
			holdOf(t, all, s[at:])
			holdOf(t, all, s[:at])
			holdOf(t, all, s[at:]+s[:at])
			for _, c := range capitals + smalls + digits {
				holdOf(t, all, s[:at]+string(c)+s[at:])
			}
		}
	}
}

func TestOfEachShortText(t *testing.T) {
	all := allWays()
	for one := range 256 {
		holdOf(t, all, string([]byte{byte(one)}))
		for _, two := range laters + " .\x00" {
			holdOf(t, all, string([]byte{byte(one)})+string(two))
		}
	}
	for _, one := range capitals {
		for _, two := range capitals {
			for _, three := range capitals {
				holdOf(t, all, string([]rune{one, two, three}))
			}
		}
	}
	for _, two := range capitals {
		for _, three := range capitals {
			holdOf(t, all, string([]rune{'B', 'L', two, three}))
			holdOf(t, all, string([]rune{'B', 'L', 'L', two, three}))
			holdOf(t, all, string([]rune{'M', 'O', two, three}))
		}
	}
}

// A mnemonic may be a label, too, as P13.2 leaves out registers alone; and no mnemonic is a register.
func TestMnemonicsAreLabelsAndNoRegisters(t *testing.T) {
	for s := range allWays() {
		if !Label(s) {
			t.Errorf("Label(%q) is false", s)
		}
		isNoReg(t, s)
	}
	for _, s := range registerNames() {
		isNoMnemonic(t, s)
	}
}

// Rules

// What is told hangs on what was asked alone (R6): the calls are the same in each order, and one beside the other.
func TestCallsDoNotHangOnEachOther(t *testing.T) {
	all := allWays()
	var group sync.WaitGroup
	for worker := range 8 {
		group.Go(func() {
			for round := range 20 {
				for s, w := range all {
					ofIs(t, s, w)
					mnemonicIs(t, w, s)
					isNoMnemonic(t, s+"L_")
				}
				n := (worker + round) % 16
				regIs(t, RegName(n), n)
				isNoReg(t, "R16")
				if !Label("_") || Label("R16") {
					t.Errorf("Label of _ and R16")
				}
			}
		})
	}
	group.Wait()
}

// A text is not kept (R7): bytes that it was made of may become others.
func TestTextsAreNotKept(t *testing.T) {
	b := []byte("BLLT")
	s := string(b)
	ofIs(t, s, way{7, 5, true})
	copy(b, "MOVU")
	ofIs(t, string(b), way{1, 0, true})
	ofIs(t, s, way{7, 5, true})
	got := []byte(Mnemonic(7, 5, true))
	copy(got, "XXXX")
	mnemonicIs(t, way{7, 5, true}, "BLLT")
	reg := []byte(RegName(15))
	copy(reg, "XXX")
	if RegName(15) != "R15" {
		t.Errorf("RegName(15) = %q", RegName(15))
	}
}

// Whatever text there is, each call ends, and tells what it is (R1).
func TestSpreadTexts(t *testing.T) {
	registers, mnemonics := registerNumbers(), allWays()
	label, register := labelForms()
	next := spread()
	pieces := []string{"R", "1", "5", "0", "B", "L", "MOV", "U", "H", "LT", "LS", "EQ", "word", ".", "_", " ", "\xff", "\x00", "ADD", "C"}
	for range 20000 {
		var s strings.Builder
		for range next() % 5 {
			s.WriteString(pieces[next()%uint32(len(pieces))])
		}
		holdReg(t, registers, s.String())
		holdOf(t, mnemonics, s.String())
		holdLabel(t, label, register, s.String())
	}
}
