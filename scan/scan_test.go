package scan

import (
	"fmt"
	"math/big"
	"regexp"
	"slices"
	"strings"
	"sync"
	"testing"
	"unsafe"

	"rivet/api"
)

const (
	letters  = "ABCDEFGHIJKLMNOPQRSTUVWXYZabcdefghijklmnopqrstuvwxyz"
	numerals = "0123456789"
	sixteen  = numerals + "ABCDEFabcdef"
	firsts   = letters + "_"
	laters   = firsts + numerals
	allSigns = ",:+-*()="
)

// A token of each kind, as it is told from its place on.
func nameAt(at int, text string) api.Token { return api.Token{Kind: 1, At: at, Text: text} }
func signAt(at int, text string) api.Token { return api.Token{Kind: 3, At: at, Text: text} }
func dotAt(at int, text string) api.Token  { return api.Token{Kind: 4, At: at, Text: text} }
func numAt(at int, text string, n uint32) api.Token {
	return api.Token{Kind: 2, At: at, Text: text, N: n}
}

func tokens(l ...api.Token) []api.Token { return l }

// shown is what was told, for a message, cut where it is long.
func shown(l []api.Token) string { return fmt.Sprintf("%.400s", fmt.Sprintf("%+v", l)) }

func lineIs(t *testing.T, s string, want []api.Token) {
	t.Helper()
	if l, e := Line(s); e != api.OK || !slices.Equal(l, want) {
		t.Errorf("Line(%.200q) = %s, %d, want %s", s, shown(l), e, shown(want))
	}
}

// lineFails asks for the error, and that no token is told beside it (R2).
func lineFails(t *testing.T, s string, want api.Errno) {
	t.Helper()
	if l, e := Line(s); e != want || len(l) != 0 {
		t.Errorf("Line(%.200q) = %s, %d, want no token, and the error %d", s, shown(l), e, want)
	}
}

func joinIs(t *testing.T, l []api.Token, want string) {
	t.Helper()
	if s := Join(l); s != want {
		t.Errorf("Join(%s) = %.400q, want %.400q", shown(l), s, want)
	}
}

// The chapter's table, written as patterns.
var (
	blanksForm  = regexp.MustCompile(`\A[ \t]*`)
	nameForm    = regexp.MustCompile(`\A[A-Za-z_][A-Za-z0-9_]*`)
	numForm     = regexp.MustCompile(`\A[0-9][A-Za-z0-9_]*`)
	dotForm     = regexp.MustCompile(`\A\.[A-Za-z_][A-Za-z0-9_]*`)
	signForm    = regexp.MustCompile(`\A[,:+\-*()=]`)
	decimalForm = regexp.MustCompile(`\A[0-9]+\z`)
	hexForm     = regexp.MustCompile(`\A0x[0-9A-Fa-f]+\z`)
)

// wantNumber is the number of a token's text in whole numbers, if it is one of those that may be.
func wantNumber(text string) (uint32, bool) {
	n, ok := new(big.Int), false
	switch {
	case decimalForm.MatchString(text):
		n, ok = n.SetString(text, 10)
	case hexForm.MatchString(text):
		n, ok = n.SetString(text[2:], 16)
	}
	if !ok || n.Cmp(big.NewInt(1<<32-1)) > 0 {
		return 0, false
	}
	return uint32(n.Uint64()), true
}

// wantLine is P14.1 of any line, token by token of the patterns.
func wantLine(s string) ([]api.Token, api.Errno) {
	s, _, _ = strings.Cut(s, ";")
	var l []api.Token
	for at := 0; ; {
		at += len(blanksForm.FindString(s[at:]))
		if at == len(s) {
			return l, api.OK
		}
		rest := s[at:]
		if name := nameForm.FindString(rest); name != "" {
			l = append(l, nameAt(at, name))
			at += len(name)
		} else if dot := dotForm.FindString(rest); dot != "" {
			l = append(l, dotAt(at, dot[1:]))
			at += len(dot)
		} else if sign := signForm.FindString(rest); sign != "" {
			l = append(l, signAt(at, sign))
			at += len(sign)
		} else if num := numForm.FindString(rest); num != "" {
			n, ok := wantNumber(num)
			if !ok {
				return nil, api.ErrNum
			}
			l = append(l, numAt(at, num, n))
			at += len(num)
		} else {
			return nil, api.ErrByte
		}
	}
}

// holdLine asks for P14.1 of any line, and for P14.2 and P14.3 of what it comes to.
func holdLine(t *testing.T, s string) api.Errno {
	t.Helper()
	want, e := wantLine(s)
	if e != api.OK {
		lineFails(t, s, e)
		return e
	}
	lineIs(t, s, want)
	holdJoin(t, want)
	return api.OK
}

// wantJoin is P14.2 of any tokens.
func wantJoin(l []api.Token) string {
	s := ""
	for _, k := range l {
		if k.Kind == 4 {
			s += "."
		}
		s += k.Text + " "
	}
	return s
}

// holdJoin asks for P14.2 and P14.3 of tokens of a line.
func holdJoin(t *testing.T, l []api.Token) {
	t.Helper()
	joined := wantJoin(l)
	joinIs(t, l, joined)
	at := 0
	moved := slices.Clone(l)
	for n, k := range l {
		moved[n].At = at
		at += len(k.Text) + 1
		if k.Kind == 4 {
			at++
		}
	}
	lineIs(t, joined, moved)
}

// spread tells numbers of a fixed rule, the same ones in each run, each below a bound.
func spread() func(below int) int {
	x := uint32(2463534242)
	return func(below int) int {
		x ^= x << 13
		x ^= x >> 17
		x ^= x << 5
		return int(x % uint32(below))
	}
}

func oneByte(c int) string { return string([]byte{byte(c)}) }

// P14.1: lines of tokens

type lineCase struct {
	s    string
	want []api.Token
}

// lineCases are lines that may be, with all of their tokens written out.
func lineCases() []lineCase {
	return []lineCase{
		{"a: .word 0x1F ; b", tokens(nameAt(0, "a"), signAt(1, ":"), dotAt(3, "word"), numAt(9, "0x1F", 31))},
		{"", nil},
		{" ", nil},
		{"\t", nil},
		{" \t \t\t  ", nil},
		{";", nil},
		{" ;", nil},
		{"\t;\t", nil},
		{";;;", nil},
		{"; a 1 .b +", nil},
		{";?\n\x00\xff 1a .", nil},
		{"a", tokens(nameAt(0, "a"))},
		{"_", tokens(nameAt(0, "_"))},
		{"__", tokens(nameAt(0, "__"))},
		{"_1", tokens(nameAt(0, "_1"))},
		{"_0x1", tokens(nameAt(0, "_0x1"))},
		{"0", tokens(numAt(0, "0", 0))},
		{"7", tokens(numAt(0, "7", 7))},
		{".a", tokens(dotAt(0, "a"))},
		{"._", tokens(dotAt(0, "_"))},
		{"._9", tokens(dotAt(0, "_9"))},
		{".R1", tokens(dotAt(0, "R1"))},
		{",", tokens(signAt(0, ","))},
		{"a b", tokens(nameAt(0, "a"), nameAt(2, "b"))},
		{"a\tb", tokens(nameAt(0, "a"), nameAt(2, "b"))},
		{" a", tokens(nameAt(1, "a"))},
		{"\ta\t", tokens(nameAt(1, "a"))},
		{"  \t a \t  b\t\t", tokens(nameAt(4, "a"), nameAt(9, "b"))},
		{"a;", tokens(nameAt(0, "a"))},
		{"a;b", tokens(nameAt(0, "a"))},
		{"a ; b", tokens(nameAt(0, "a"))},
		{"a;?", tokens(nameAt(0, "a"))},
		{"1;a", tokens(numAt(0, "1", 1))},
		{"0x1;", tokens(numAt(0, "0x1", 1))},
		{".a;.", tokens(dotAt(0, "a"))},
		{"+;;", tokens(signAt(0, "+"))},
		{"a b;c;d", tokens(nameAt(0, "a"), nameAt(2, "b"))},
		{"ab12_c", tokens(nameAt(0, "ab12_c"))},
		{"R15", tokens(nameAt(0, "R15"))},
		{"x0x1", tokens(nameAt(0, "x0x1"))},
		{"a1 1", tokens(nameAt(0, "a1"), numAt(3, "1", 1))},
		{"1 a1", tokens(numAt(0, "1", 1), nameAt(2, "a1"))},
		{"a.b", tokens(nameAt(0, "a"), dotAt(1, "b"))},
		{"a.b.c", tokens(nameAt(0, "a"), dotAt(1, "b"), dotAt(3, "c"))},
		{".a.b", tokens(dotAt(0, "a"), dotAt(2, "b"))},
		{".a .b", tokens(dotAt(0, "a"), dotAt(3, "b"))},
		{"1.a", tokens(numAt(0, "1", 1), dotAt(1, "a"))},
		{"0x1.a", tokens(numAt(0, "0x1", 1), dotAt(3, "a"))},
		{"1.x2", tokens(numAt(0, "1", 1), dotAt(1, "x2"))},
		{"1+2", tokens(numAt(0, "1", 1), signAt(1, "+"), numAt(2, "2", 2))},
		{"1-2", tokens(numAt(0, "1", 1), signAt(1, "-"), numAt(2, "2", 2))},
		{"-1", tokens(signAt(0, "-"), numAt(1, "1", 1))},
		{"-0x10", tokens(signAt(0, "-"), numAt(1, "0x10", 16))},
		{"+ 1", tokens(signAt(0, "+"), numAt(2, "1", 1))},
		{"--", tokens(signAt(0, "-"), signAt(1, "-"))},
		{"- -", tokens(signAt(0, "-"), signAt(2, "-"))},
		{"**", tokens(signAt(0, "*"), signAt(1, "*"))},
		{"()", tokens(signAt(0, "("), signAt(1, ")"))},
		{"+.a", tokens(signAt(0, "+"), dotAt(1, "a"))},
		{"a:b", tokens(nameAt(0, "a"), signAt(1, ":"), nameAt(2, "b"))},
		{"a:.b", tokens(nameAt(0, "a"), signAt(1, ":"), dotAt(2, "b"))},
		{"a :", tokens(nameAt(0, "a"), signAt(2, ":"))},
		{"=a", tokens(signAt(0, "="), nameAt(1, "a"))},
		{",:+-*()=", tokens(signAt(0, ","), signAt(1, ":"), signAt(2, "+"), signAt(3, "-"), signAt(4, "*"), signAt(5, "("), signAt(6, ")"), signAt(7, "="))},
		{"LDW R1,R2,-(a+4)*2", tokens(nameAt(0, "LDW"), nameAt(4, "R1"), signAt(6, ","), nameAt(7, "R2"), signAt(9, ","), signAt(10, "-"), signAt(11, "("), nameAt(12, "a"), signAt(13, "+"), numAt(14, "4", 4), signAt(15, ")"), signAt(16, "*"), numAt(17, "2", 2))},
		{"\tLDL R3, =0xFFFFFFFF ;all", tokens(nameAt(1, "LDL"), nameAt(5, "R3"), signAt(7, ","), signAt(9, "="), numAt(10, "0xFFFFFFFF", 1<<32-1))},
		{"a:1:.b:c", tokens(nameAt(0, "a"), signAt(1, ":"), numAt(2, "1", 1), signAt(3, ":"), dotAt(4, "b"), signAt(6, ":"), nameAt(7, "c"))},
	}
}

func TestNamedLines(t *testing.T) {
	for _, c := range lineCases() {
		lineIs(t, c.s, c.want)
		if want, e := wantLine(c.s); e != api.OK || !slices.Equal(want, c.want) {
			t.Errorf("the test's own tokens of %q are %s, %d, want %s", c.s, shown(want), e, shown(c.want))
		}
	}
}

// Blanks, tabs and remarks around a line move its tokens, and change nothing else.
func TestNamedLinesWithMoreAround(t *testing.T) {
	for _, c := range lineCases() {
		for _, ahead := range []string{" ", "\t", "  ", "\t \t", strings.Repeat(" \t", 50)} {
			moved := slices.Clone(c.want)
			for n := range moved {
				moved[n].At += len(ahead)
			}
			lineIs(t, ahead+c.s, moved)
		}
		for _, behind := range []string{" ", "\t", " \t ", ";", " ;", "; ?", ";;1a", ";\n\n", ";\x00\xff", strings.Repeat("\t ", 50), ";" + strings.Repeat("?", 100)} {
			lineIs(t, c.s+behind, c.want)
		}
		lineIs(t, ";"+c.s, nil)
		lineIs(t, " ; "+c.s, nil)
	}
}

// No value of package api is told where the chapter's number is another.
func TestKindsByTheirNames(t *testing.T) {
	lineIs(t, "a 1 + .b", []api.Token{
		{Kind: api.TkName, At: 0, Text: "a"},
		{Kind: api.TkNum, At: 2, Text: "1", N: 1},
		{Kind: api.TkSign, At: 4, Text: "+"},
		{Kind: api.TkDot, At: 6, Text: "b"},
	})
}

// Each of the 256 bytes first, alone: what it is stands written out, and hangs on no pattern.
func TestEachByteAlone(t *testing.T) {
	for c := range 256 {
		s := oneByte(c)
		switch {
		case strings.Contains(firsts, s):
			lineIs(t, s, tokens(nameAt(0, s)))
		case strings.Contains(numerals, s):
			lineIs(t, s, tokens(numAt(0, s, uint32(c-'0'))))
		case strings.Contains(allSigns, s):
			lineIs(t, s, tokens(signAt(0, s)))
		case s == " " || s == "\t" || s == ";":
			lineIs(t, s, nil)
		default:
			lineFails(t, s, api.ErrByte)
		}
	}
}

func TestEachByteBehindALetter(t *testing.T) {
	for _, first := range []string{"a", "Z", "_", "R1"} {
		for c := range 256 {
			s := oneByte(c)
			switch {
			case strings.Contains(laters, s):
				lineIs(t, first+s, tokens(nameAt(0, first+s)))
			case strings.Contains(allSigns, s):
				lineIs(t, first+s, tokens(nameAt(0, first), signAt(len(first), s)))
			case s == " " || s == "\t" || s == ";":
				lineIs(t, first+s, tokens(nameAt(0, first)))
			default:
				lineFails(t, first+s, api.ErrByte)
			}
		}
	}
}

func TestEachByteBehindADigit(t *testing.T) {
	for c := range 256 {
		s := oneByte(c)
		switch {
		case strings.Contains(numerals, s):
			lineIs(t, "4"+s, tokens(numAt(0, "4"+s, uint32(40+c-'0'))))
			lineIs(t, "0"+s, tokens(numAt(0, "0"+s, uint32(c-'0'))))
		case strings.Contains(firsts, s):
			lineFails(t, "4"+s, api.ErrNum)
			lineFails(t, "0"+s, api.ErrNum)
		case strings.Contains(allSigns, s):
			lineIs(t, "4"+s, tokens(numAt(0, "4", 4), signAt(1, s)))
			lineIs(t, "0"+s, tokens(numAt(0, "0", 0), signAt(1, s)))
		case s == " " || s == "\t" || s == ";":
			lineIs(t, "4"+s, tokens(numAt(0, "4", 4)))
			lineIs(t, "0"+s, tokens(numAt(0, "0", 0)))
		default:
			lineFails(t, "4"+s, api.ErrByte)
			lineFails(t, "0"+s, api.ErrByte)
		}
	}
}

func TestEachByteBehindTheHexadecimalMark(t *testing.T) {
	for c := range 256 {
		s := oneByte(c)
		if n := strings.Index("0123456789ABCDEF", strings.ToUpper(s)); c < 128 && n >= 0 {
			lineIs(t, "0x"+s, tokens(numAt(0, "0x"+s, uint32(n))))
			lineIs(t, "0x1"+s, tokens(numAt(0, "0x1"+s, uint32(16+n))))
			continue
		}
		lineFails(t, "0x"+s, api.ErrNum)
		switch {
		case strings.Contains(laters, s):
			lineFails(t, "0x1"+s, api.ErrNum)
		case strings.Contains(allSigns, s):
			lineIs(t, "0x1"+s, tokens(numAt(0, "0x1", 1), signAt(3, s)))
		case s == " " || s == "\t" || s == ";":
			lineIs(t, "0x1"+s, tokens(numAt(0, "0x1", 1)))
		default:
			lineFails(t, "0x1"+s, api.ErrByte)
		}
	}
}

func TestEachByteBehindADot(t *testing.T) {
	for c := range 256 {
		s := oneByte(c)
		if strings.Contains(firsts, s) {
			lineIs(t, "."+s, tokens(dotAt(0, s)))
			lineIs(t, " 1."+s+"9", tokens(numAt(1, "1", 1), dotAt(2, s+"9")))
			continue
		}
		lineFails(t, "."+s, api.ErrByte)
		lineFails(t, "."+s+"a", api.ErrByte)
		lineFails(t, "a."+s, api.ErrByte)
	}
}

func TestEachByteBehindADotAndALetter(t *testing.T) {
	for c := range 256 {
		s := oneByte(c)
		switch {
		case strings.Contains(laters, s):
			lineIs(t, ".a"+s, tokens(dotAt(0, "a"+s)))
		case strings.Contains(allSigns, s):
			lineIs(t, ".a"+s, tokens(dotAt(0, "a"), signAt(2, s)))
		case s == " " || s == "\t" || s == ";":
			lineIs(t, ".a"+s, tokens(dotAt(0, "a")))
		default:
			lineFails(t, ".a"+s, api.ErrByte)
		}
	}
}

func TestEachByteBehindASign(t *testing.T) {
	for c := range 256 {
		s := oneByte(c)
		for _, sign := range strings.Split(allSigns, "") {
			switch {
			case strings.Contains(firsts, s):
				lineIs(t, sign+s, tokens(signAt(0, sign), nameAt(1, s)))
			case strings.Contains(numerals, s):
				lineIs(t, sign+s, tokens(signAt(0, sign), numAt(1, s, uint32(c-'0'))))
			case strings.Contains(allSigns, s):
				lineIs(t, sign+s, tokens(signAt(0, sign), signAt(1, s)))
			case s == " " || s == "\t" || s == ";":
				lineIs(t, sign+s, tokens(signAt(0, sign)))
			default:
				lineFails(t, sign+s, api.ErrByte)
			}
		}
	}
}

// A byte that may not stand is told wherever it is, but behind a semicolon.
func TestEachByteAmongTokens(t *testing.T) {
	for c := range 256 {
		s := oneByte(c)
		for _, form := range []string{" %s", "\t%s ", "a %s", "a %s b", "1 %s 2", ".a %s .b", "+ %s -", "%s a", "%s 1", "%sa", "%s1", "%s_", "%s.a", "%s;", ";%s", "a;%s", "%[1]s%[1]s", "%[1]s %[1]s", "a%sb", "1%s2", "(%s)", "0x1%s2"} {
			holdLine(t, fmt.Sprintf(form, s))
		}
		lineIs(t, "a ;"+s, tokens(nameAt(0, "a")))
		if !strings.Contains(laters+allSigns+" \t;.", s) {
			for _, form := range []string{" %s", "a %s", "a %s b", "%s a", "a%sb", "1%s2", "%s;", "%s;%[1]s", ".a%s", "+%s", "  \t%s"} {
				lineFails(t, fmt.Sprintf(form, s), api.ErrByte)
			}
		}
	}
}

// Runes beyond the bytes of a name are no letters, digits or blanks, whatever else they are called.
func TestRunesThatAreNoTokens(t *testing.T) {
	for _, s := range []string{
		"\u00e9", "\u00aa", "\u00b5", "\u00c5", "\u017f", "\u212a", "\u03b2", "\u0430", "\uff21", "\uff41", "\uff3f", "\u0661", "\u0967", "\uff11", "\u00b2", "\u2460",
		"\u00a0", "\u2003", "\u200b", "\u3000", "\ufeff", "\u2028", "\u0085", "\u1680", "\u037e", "\uff1b", "\u3002", "\uff0e", "\uff0c", "\uff1a", "\uff0b", "\uff0d", "\u2212", "\u00d7", "\uff08", "\uff09", "\uff1d", "\u0301",
		"\U0001d7ce", "\U0001d400", "\ufffd", "\xc3", "\x80", "\xff", "\xed\xa0\x80", "\xc0\x80",
	} {
		for _, form := range []string{"%s", " %s", "a%s", "a %s", "%sa", "1%s", "1 %s", "0x1%s", ".a%s", ".%s", "+%s", "%s;", "_%s_"} {
			lineFails(t, fmt.Sprintf(form, s), api.ErrByte)
		}
		lineFails(t, "0x"+s, api.ErrNum)
		lineIs(t, "a;"+s, tokens(nameAt(0, "a")))
	}
}

// Line ends are no blanks: a line has none.
func TestLineEndsAreNoBlanks(t *testing.T) {
	for _, s := range []string{"\n", "\r", "\r\n", "\v", "\f", "\x00", "\x1f", "\x7f", "\x85", "\xa0"} {
		for _, form := range []string{"%s", "a%s", "%sa", "a%sb", " %s ", "1%s", "%s;", ".a%s", "+%s"} {
			lineFails(t, fmt.Sprintf(form, s), api.ErrByte)
		}
		lineIs(t, ";"+s, nil)
		lineIs(t, "a;"+s+"b", tokens(nameAt(0, "a")))
	}
}

// Names are as long as may be: how long a label may be is for others to tell.
func TestLongTokens(t *testing.T) {
	for _, size := range []int{1, 2, 11, 12, 13, 15, 16, 17, 31, 32, 33, 63, 64, 65, 127, 128, 129, 255, 256, 257, 1000, 65535, 65536, 65537, 1 << 20} {
		for _, c := range []string{"a", "_", "Z", "R"} {
			s := strings.Repeat(c, size)
			lineIs(t, s, tokens(nameAt(0, s)))
			lineIs(t, "."+s+" 1", tokens(dotAt(0, s), numAt(size+2, "1", 1)))
			lineIs(t, "1 "+s+"9;", tokens(numAt(0, "1", 1), nameAt(2, s+"9")))
		}
	}
}

// Blanks, and tokens, as many as may be.
func TestLongLines(t *testing.T) {
	for _, size := range []int{1, 2, 63, 64, 65, 255, 256, 257, 4095, 4096, 4097, 65535, 65536, 65537, 1 << 18} {
		blanks := strings.Repeat(" ", size)
		lineIs(t, blanks, nil)
		lineIs(t, blanks+"a"+blanks+"1", tokens(nameAt(size, "a"), numAt(2*size+1, "1", 1)))
		lineIs(t, strings.Repeat("\t", size)+".a", tokens(dotAt(size, "a")))
		lineIs(t, strings.Repeat(";", size), nil)
		lineIs(t, "+;"+strings.Repeat("?", size), tokens(signAt(0, "+")))
		signs := make([]api.Token, size)
		dots := make([]api.Token, size)
		for n := range size {
			signs[n] = signAt(n, "-")
			dots[n] = dotAt(2*n, "a")
		}
		lineIs(t, strings.Repeat("-", size), signs)
		lineIs(t, strings.Repeat(".a", size), dots)
		lineFails(t, strings.Repeat("-", size)+"?", api.ErrByte)
		lineFails(t, strings.Repeat("-", size)+"1a", api.ErrNum)
		lineFails(t, strings.Repeat("1 ", size)+".", api.ErrByte)
		lineFails(t, strings.Repeat(".", size), api.ErrByte)
		lineFails(t, strings.Repeat("?", size), api.ErrByte)
	}
}

// P14.1: numbers

func TestNamedNumbers(t *testing.T) {
	for _, c := range []struct {
		s string
		n uint32
	}{
		{"0", 0}, {"1", 1}, {"9", 9}, {"10", 10}, {"00", 0}, {"01", 1}, {"07", 7}, {"08", 8}, {"09", 9}, {"010", 10}, {"0000000000000000000000000000012", 12}, {"100", 100}, {"255", 255}, {"65535", 65535}, {"65536", 65536},
		{"2147483647", 1<<31 - 1}, {"2147483648", 1 << 31}, {"4294967294", 1<<32 - 2}, {"4294967295", 1<<32 - 1}, {"04294967295", 1<<32 - 1}, {"00000000000000000000004294967295", 1<<32 - 1}, {"1234567890", 1234567890}, {"999999999", 999999999},
		{"0x0", 0}, {"0x1", 1}, {"0x9", 9}, {"0xA", 10}, {"0xF", 15}, {"0xa", 10}, {"0xf", 15}, {"0x10", 16}, {"0x00", 0}, {"0x000000000000000000000000000000001F", 31}, {"0xaB", 171}, {"0xAb", 171}, {"0xBa", 186}, {"0xE", 14}, {"0xe1", 225}, {"0x1e1", 481}, {"0xb1", 177}, {"0x0b1", 177},
		{"0x12345678", 0x12345678}, {"0x9ABCDEF0", 0x9ABCDEF0}, {"0x9abcdef0", 0x9ABCDEF0}, {"0xdeadBEEF", 0xDEADBEEF}, {"0x7FFFFFFF", 1<<31 - 1}, {"0x80000000", 1 << 31}, {"0xFFFFFFFE", 1<<32 - 2}, {"0xFFFFFFFF", 1<<32 - 1}, {"0xffffffff", 1<<32 - 1}, {"0x0FFFFFFFF", 1<<32 - 1}, {"0x00000000FFFFFFFF", 1<<32 - 1},
		{strings.Repeat("0", 1<<20), 0}, {strings.Repeat("0", 1<<20) + "7", 7}, {"0x" + strings.Repeat("0", 1<<20), 0}, {"0x" + strings.Repeat("0", 1<<20) + "fF", 255}, {strings.Repeat("0", 1<<20) + "4294967295", 1<<32 - 1},
	} {
		lineIs(t, c.s, tokens(numAt(0, c.s, c.n)))
		lineIs(t, "a "+c.s+"-"+c.s+";", tokens(nameAt(0, "a"), numAt(2, c.s, c.n), signAt(2+len(c.s), "-"), numAt(3+len(c.s), c.s, c.n)))
	}
}

func TestTextsThatAreNoNumbers(t *testing.T) {
	for _, s := range []string{
		"4294967296", "4294967297", "4294967300", "04294967296", "5000000000", "9999999999", "8589934592", "42949672950", "10000000000", "18446744073709551615", "18446744073709551616", "18446744073709551617", "36893488147419103232", "340282366920938463463374607431768211456",
		"0x100000000", "0x100000001", "0x1FFFFFFFF", "0xFFFFFFFF0", "0xfffffffff", "0x0100000000", "0x10000000000000000", "0x10000000000000001", "0xFFFFFFFFFFFFFFFF", "0x100000000000000000000000000000000",
		"0x", "0X", "0x_", "0x_1", "0x1_", "0x1_0", "0xg", "0xG", "0x1g", "0xg1", "0xx", "0xx1", "0x0x1", "0x0x", "0xh", "0xz", "0xZ", "0x1x", "0xFFFFFFFFg", "0x12345678x",
		"0X0", "0X1", "0XF", "0Xf", "0XFFFFFFFF", "00x1", "00X1", "10x1", "1x1", "1x", "9x9", "0_x1", "0x_F", "0xF_",
		"1a", "1A", "1f", "1F", "0a", "0f", "0b", "0b1", "0B1", "0b0", "0o7", "0o", "0O7", "1b", "1e3", "1E3", "1e", "0e0", "1p3", "0x1p3", "12h", "0FFh", "1h", "1z", "1Z", "10L", "1u", "1R", "9R1", "123abc", "0word",
		"1_", "1_0", "1__0", "0_", "0_1", "00_", "1_000_000", "4294967295_", "0xFFFFFFFF_", "00000000001_",
		strings.Repeat("9", 1<<20), "1" + strings.Repeat("0", 1<<20), "0x" + strings.Repeat("F", 1<<20), "0x1" + strings.Repeat("0", 1<<20), strings.Repeat("0", 1<<20) + "4294967296", strings.Repeat("0", 1<<20) + "a", "0x" + strings.Repeat("0", 1<<20) + "100000000", "0x" + strings.Repeat("0", 1<<20) + "g", strings.Repeat("1", 1<<20) + "_",
	} {
		for _, form := range []string{"%s", " %s", "%s ", "%s;", "a %s", "%s a", "%s+1", "-%s", "(%s)", "%s.a", ".a %s", "%s ?", "1 %s 2"} {
			lineFails(t, fmt.Sprintf(form, s), api.ErrNum)
		}
	}
}

// Each power of two, and what stands beside it, both ways and with noughts ahead.
func TestNumbersBesidePowersOfTwo(t *testing.T) {
	for bit := range 130 {
		for beside := int64(-3); beside <= 3; beside++ {
			n := new(big.Int).Lsh(big.NewInt(1), uint(bit))
			n.Add(n, big.NewInt(beside))
			if n.Sign() < 0 {
				continue
			}
			for _, s := range []string{n.String(), "0" + n.String(), "000000" + n.String(), fmt.Sprintf("0x%x", n), fmt.Sprintf("0x%X", n), fmt.Sprintf("0x%040X", n)} {
				if n.BitLen() <= 32 {
					lineIs(t, s, tokens(numAt(0, s, uint32(n.Uint64()))))
				} else {
					lineFails(t, s, api.ErrNum)
				}
			}
		}
	}
}

func TestSpreadNumbers(t *testing.T) {
	next := spread()
	for range 30000 {
		n := uint32(next(1<<16))<<16 | uint32(next(1<<16))
		n >>= next(32)
		for _, form := range []string{"%d", "0x%x", "0x%X", "0%d", "0x0%x"} {
			s := fmt.Sprintf(form, n)
			lineIs(t, s, tokens(numAt(0, s, n)))
		}
	}
}

// Each short text of these bytes behind a digit is a number just if it is one in whole numbers.
func TestEachShortNumber(t *testing.T) {
	digits := "019xXafgF_"
	for _, first := range "0149" {
		for n := range 10000 {
			s := string(first)
			for rest := n; rest > 0; rest /= 10 {
				s += string(digits[rest%10])
			}
			if want, ok := wantNumber(s); ok {
				lineIs(t, s, tokens(numAt(0, s, want)))
			} else {
				lineFails(t, s, api.ErrNum)
			}
		}
	}
}

// Each digit of numbers at the bound is changed to each byte that may stand there.
func TestNumbersWithOneByteChanged(t *testing.T) {
	for _, from := range []string{"4294967295", "4294967296", "0xFFFFFFFF", "0x100000000", "0xffffffff", "00000000001", "0x00000000001", "3999999999", "9"} {
		for at := range len(from) {
			for c := range 256 {
				b := []byte(from)
				b[at] = byte(c)
				holdLine(t, string(b))
				holdLine(t, from[:at]+oneByte(c)+from[at:])
			}
			holdLine(t, from[:at])
			holdLine(t, from[:at]+from[at+1:])
		}
	}
}

// P14.1: dots

func TestDotsThatAreNoTokens(t *testing.T) {
	for _, s := range []string{
		".", "..", "...", ". ", ".\t", ".;", ".;a", ". a", ".\ta", ". .a", ".1", ".9a", ".0x1", "..a", "...a", ".+", ".-a", ".:", ".(a)", ".,", ".=", ".*", ".?", ".\x00", ".\n", ".\xff", ".\u00e9",
		"a.", "a .", "a. b", "a.1", "a..b", "a...", "1.", "1.5", "1 .", "1. a", "0.1", "0x1.", "0x1.8", "+.", "(.)", ".a.", ".a .", ".a..b", ".a.1", "a.b.", "a.b.1", "a:.", "a:.1",
	} {
		lineFails(t, s, api.ErrByte)
		lineFails(t, " \t"+s, api.ErrByte)
		lineFails(t, "b 7 "+s+" c", api.ErrByte)
		lineIs(t, "a;"+s, tokens(nameAt(0, "a")))
	}
}

// P14.1: the first that is none

// wrongPieces are what is no token, with blanks around so that it is the same one wherever it stands.
func wrongPieces() map[string]api.Errno {
	return map[string]api.Errno{
		" ? ": api.ErrByte, " . ": api.ErrByte, " .1 ": api.ErrByte, " ..a ": api.ErrByte, " \x00 ": api.ErrByte, " \n ": api.ErrByte, " \xff ": api.ErrByte, " / ": api.ErrByte, " \u00e9 ": api.ErrByte, " \" ": api.ErrByte, " # ": api.ErrByte,
		" 1a ": api.ErrNum, " 0x ": api.ErrNum, " 0X1 ": api.ErrNum, " 1_0 ": api.ErrNum, " 4294967296 ": api.ErrNum, " 0x100000000 ": api.ErrNum, " 0xg ": api.ErrNum, " 99999999999999999999 ": api.ErrNum,
	}
}

func TestTheFirstThatIsNoTokenIsTold(t *testing.T) {
	for one, first := range wrongPieces() {
		for _, ahead := range []string{"", "a", "1", ".a", "+", "a 1 .b + c", "0x1F", "a:", "-(2)"} {
			lineFails(t, ahead+one, first)
			lineFails(t, ahead+one+"a 1 .b +", first)
			lineFails(t, ahead+one+"; a", first)
			lineIs(t, ahead+";"+one, mustLine(t, ahead))
			for two := range wrongPieces() {
				lineFails(t, ahead+one+two, first)
				lineFails(t, ahead+one+"a"+two+"b", first)
				lineFails(t, ahead+one+";"+two, first)
			}
		}
	}
}

// Without a blank between, what is no number ends where a byte stands that is no letter, digit or underscore.
func TestTheFirstOfTwoSideBySideIsTold(t *testing.T) {
	for s, want := range map[string]api.Errno{
		"1a?": api.ErrNum, "?1a": api.ErrByte, "0x?": api.ErrNum, "?0x": api.ErrByte, "0x.": api.ErrNum, ".0x": api.ErrByte, "4294967296?": api.ErrNum, "?4294967296": api.ErrByte, "1_.": api.ErrNum, ".1_": api.ErrByte,
		"1a.1": api.ErrNum, "1.1a": api.ErrByte, "1?1a": api.ErrByte, "1+1a?": api.ErrNum, "1+?1a": api.ErrByte, "a?1a": api.ErrByte, "a,1a,?": api.ErrNum, "a,?,1a": api.ErrByte, ".a.1a": api.ErrByte, ".a,1a.": api.ErrNum,
		"0x\xff": api.ErrNum, "\xff0x": api.ErrByte, "1a\n": api.ErrNum, "\n1a": api.ErrByte, "1a;?": api.ErrNum, "?;1a": api.ErrByte,
	} {
		lineFails(t, s, want)
	}
}

func mustLine(t *testing.T, s string) []api.Token {
	t.Helper()
	l, e := wantLine(s)
	if e != api.OK {
		t.Fatalf("the test's line %q is none", s)
	}
	return l
}

// P14.1: tokens side by side

// pieces are a token of each kind and form.
func pieces() []string {
	return []string{"a", "B2", "_", "_9", "x", "R15", "0", "1", "007", "0x0", "0x1F", "0xffFF", "4294967295", ".a", "._", ".word", ".x1", ",", ":", "+", "-", "*", "(", ")", "="}
}

func TestEachTwoTokens(t *testing.T) {
	for _, one := range pieces() {
		for _, two := range pieces() {
			first, second := mustLine(t, one)[0], mustLine(t, two)[0]
			for _, between := range []string{" ", "\t", "  ", "\t\t", " \t", "\t \t "} {
				second.At = len(one + between)
				lineIs(t, one+between+two, tokens(first, second))
			}
			lineIs(t, one+";"+two, tokens(first))
			holdLine(t, one+two)
		}
	}
}

func TestEachThreeTokens(t *testing.T) {
	for _, one := range pieces() {
		for _, two := range pieces() {
			for _, three := range pieces() {
				holdLine(t, one+two+three)
				holdLine(t, one+" "+two+three)
				holdLine(t, one+two+"\t"+three)
			}
		}
	}
}

// Two signs side by side are two tokens, each two of them.
func TestEachTwoSigns(t *testing.T) {
	for _, one := range strings.Split(allSigns, "") {
		for _, two := range strings.Split(allSigns, "") {
			lineIs(t, one+two, tokens(signAt(0, one), signAt(1, two)))
			lineIs(t, one+" "+two, tokens(signAt(0, one), signAt(2, two)))
		}
	}
}

// Each text of at most five of these bytes, a few of each class.
func TestEachShortLine(t *testing.T) {
	bytes := "a_x019.+- \t;?"
	seen := map[api.Errno]int{}
	for size := range 6 {
		count := 1
		for range size {
			count *= len(bytes)
		}
		b := make([]byte, size)
		for n := range count {
			for at, rest := 0, n; at < size; at, rest = at+1, rest/len(bytes) {
				b[at] = bytes[rest%len(bytes)]
			}
			want, e := wantLine(string(b))
			seen[e]++
			if l, got := Line(string(b)); got != e || !slices.Equal(l, want) {
				t.Fatalf("Line(%q) = %s, %d, want %s, %d", b, shown(l), got, shown(want), e)
			}
		}
	}
	for _, e := range []api.Errno{api.OK, api.ErrByte, api.ErrNum} {
		if seen[e] < 10000 {
			t.Errorf("the error %d was told %d times only", e, seen[e])
		}
	}
}

func TestEachTwoBytes(t *testing.T) {
	for one := range 256 {
		for two := range 256 {
			holdLine(t, string([]byte{byte(one), byte(two)}))
		}
	}
}

func TestLinesWithOneByteElsewhere(t *testing.T) {
	for _, c := range lineCases() {
		for at := range len(c.s) {
			for n := range 256 {
				b := []byte(c.s)
				b[at] = byte(n)
				holdLine(t, string(b))
			}
			holdLine(t, c.s[:at])
			holdLine(t, c.s[at:])
			holdLine(t, c.s[:at]+c.s[at+1:])
			holdLine(t, c.s[:at]+c.s[at:at+1]+c.s[at:])
		}
	}
}

// P14.2

func TestJoinOfNamedTokens(t *testing.T) {
	for _, c := range []struct {
		l    []api.Token
		want string
	}{
		{nil, ""},
		{tokens(), ""},
		{tokens(nameAt(0, "a")), "a "},
		{tokens(numAt(0, "7", 7)), "7 "},
		{tokens(signAt(0, "+")), "+ "},
		{tokens(dotAt(0, "a")), ".a "},
		{tokens(nameAt(0, "a"), signAt(1, ":"), dotAt(3, "word"), numAt(9, "0x1F", 31)), "a : .word 0x1F "},
		{tokens(signAt(0, "("), signAt(1, "="), signAt(2, "*"), signAt(3, "-"), signAt(4, ")")), "( = * - ) "},
		{tokens(dotAt(0, "a"), dotAt(2, "b")), ".a .b "},
		{tokens(nameAt(5, "b"), nameAt(0, "a")), "b a "},
		// What is joined is not asked whether it is a token: the kind tells of the dot alone, and the text is as it is.
		{tokens(nameAt(0, "")), " "},
		{tokens(dotAt(0, "")), ". "},
		{tokens(nameAt(0, ""), numAt(0, "", 0), signAt(0, ""), dotAt(0, "")), "   . "},
		{tokens(api.Token{}), " "},
		{tokens(api.Token{Text: "a"}), "a "},
		{tokens(api.Token{Kind: 0, Text: "a"}, api.Token{Kind: 5, Text: "b"}, api.Token{Kind: -4, Text: "c"}, api.Token{Kind: 260, Text: "d"}, api.Token{Kind: 1<<32 + 4, Text: "e"}, api.Token{Kind: 6, Text: "f"}, api.Token{Kind: 12, Text: "g"}), "a b c d e f g "},
		{tokens(dotAt(0, ".a"), nameAt(0, ".b"), numAt(0, ".c", 0), signAt(0, ".d")), "..a .b .c .d "},
		{tokens(dotAt(0, "a b"), nameAt(0, " "), signAt(0, "\t"), numAt(0, ";", 0)), ".a b   \t ; "},
		{tokens(dotAt(0, "1"), numAt(0, "1a", 9), nameAt(0, "\x00\xff"), signAt(0, "\u00e9"), nameAt(0, "a\n")), ".1 1a \x00\xff \u00e9 a\n "},
		{tokens(api.Token{Kind: 2, At: -1, Text: "5", N: 6}, api.Token{Kind: 1, At: 1 << 62, Text: "a", N: 1<<32 - 1}, api.Token{Kind: 4, At: 3, Text: "b", N: 1}), "5 a .b "},
	} {
		joinIs(t, c.l, c.want)
	}
}

// Of all kinds around, that of a dot alone has a dot ahead.
func TestJoinOfEachKind(t *testing.T) {
	for kind := -300; kind <= 300; kind++ {
		want := "ab "
		if kind == api.TkDot {
			want = ".ab "
		}
		joinIs(t, tokens(api.Token{Kind: kind, Text: "ab"}), want)
		joinIs(t, tokens(nameAt(0, "x"), api.Token{Kind: kind, Text: "ab"}, nameAt(0, "y")), "x "+want+"y ")
	}
}

func TestJoinOfEachByte(t *testing.T) {
	for c := range 256 {
		s := oneByte(c)
		joinIs(t, tokens(nameAt(0, s), numAt(0, s, 0), signAt(0, s), dotAt(0, s)), s+" "+s+" "+s+" ."+s+" ")
	}
}

func TestJoinOfManyTokens(t *testing.T) {
	for _, size := range []int{1, 2, 63, 64, 65, 255, 256, 257, 4096, 65537} {
		l := make([]api.Token, size)
		for n := range l {
			l[n] = dotAt(n, "a1")
		}
		joinIs(t, l, strings.Repeat(".a1 ", size))
	}
	long := strings.Repeat("ab ", 1<<18)
	joinIs(t, tokens(dotAt(0, long), nameAt(0, long)), "."+long+" "+long+" ")
}

// P14.3

func TestTokensOfWhatWasJoined(t *testing.T) {
	for _, c := range lineCases() {
		holdJoin(t, c.want)
		// Joined, scanned and joined again it is the same line.
		l, e := Line(Join(c.want))
		if e != api.OK || Join(l) != Join(c.want) {
			t.Errorf("%q is joined as %q, and again as %q, %d", c.s, Join(c.want), Join(l), e)
		}
		lineIs(t, Join(l), l)
	}
}

// spreadLine is a line of tokens, with or without blanks between, and now and then of something else.
func spreadLine(next func(int) int, wrong int) string {
	all := pieces()
	var s strings.Builder
	for range next(12) {
		s.WriteString(all[next(len(all))])
		s.WriteString([]string{"", "", " ", "\t", "  "}[next(5)])
		if next(100) < wrong {
			s.WriteByte(byte(next(256)))
		}
	}
	return s.String()
}

func TestTokensOfSpreadLines(t *testing.T) {
	next := spread()
	seen := map[api.Errno]int{}
	for range 60000 {
		seen[holdLine(t, spreadLine(next, 4))]++
	}
	for _, e := range []api.Errno{api.OK, api.ErrByte, api.ErrNum} {
		if seen[e] < 1000 {
			t.Errorf("the error %d was told %d times only", e, seen[e])
		}
	}
}

// Each list of a few tokens, however they are made, is joined and scanned again.
func TestTokensOfEachFewJoined(t *testing.T) {
	var all []api.Token
	for _, s := range pieces() {
		all = append(all, mustLine(t, s)[0])
	}
	for _, one := range all {
		holdJoin(t, tokens(one))
		for _, two := range all {
			holdJoin(t, tokens(one, two))
			for _, three := range all {
				holdJoin(t, tokens(one, two, three))
			}
		}
	}
}

// R1: whatever bytes there are, the calls end

func TestSpreadBytes(t *testing.T) {
	next := spread()
	for range 60000 {
		b := make([]byte, next(30))
		for n := range b {
			b[n] = byte(next(256))
		}
		holdLine(t, string(b))
		holdLine(t, "a "+string(b))
		joinIs(t, tokens(dotAt(0, string(b)), nameAt(0, string(b))), "."+string(b)+" "+string(b)+" ")
	}
}

// R6 and R7

func TestJoinLeavesWhatIsHandedIn(t *testing.T) {
	for _, c := range lineCases() {
		// The room behind a list is the caller's too.
		room := append(slices.Clone(c.want), dotAt(7, "z"), numAt(8, "5", 5))
		before := slices.Clone(room)
		Join(room[:len(c.want)])
		if !slices.Equal(room, before) {
			t.Errorf("Join left %s, want %s", shown(room), shown(before))
		}
	}
}

func TestAnswersAreApart(t *testing.T) {
	for _, c := range lineCases() {
		first, _ := Line(c.s)
		second, _ := Line(c.s)
		joined := Join(first)
		first = first[:cap(first)]
		for n := range first {
			first[n] = dotAt(99, "spoilt")
		}
		if !slices.Equal(second, c.want) {
			t.Errorf("Line(%q) shares what it tells: %s", c.s, shown(second))
		}
		if joined != wantJoin(c.want) {
			t.Errorf("what Join told of %q became %q", c.s, joined)
		}
		lineIs(t, c.s, c.want)
	}
}

// The bytes behind the line, and behind the texts, may become others: what was told stays as it was.
func TestTextsAreTheCallersOwn(t *testing.T) {
	for _, c := range lineCases() {
		if c.s == "" {
			continue
		}
		b := []byte(c.s)
		l, e := Line(unsafe.String(&b[0], len(b)))
		clear(b)
		if e != api.OK || !slices.Equal(l, c.want) {
			t.Errorf("the tokens of %q became %s, %d", c.s, shown(l), e)
		}
	}
	b := []byte("word")
	s := Join(tokens(dotAt(0, unsafe.String(&b[0], len(b)))))
	clear(b)
	if s != ".word " {
		t.Errorf("what was joined became %q", s)
	}
}

func TestCallsDoNotHangOnEachOther(t *testing.T) {
	cases := lineCases()
	var group sync.WaitGroup
	for worker := range 8 {
		group.Go(func() {
			for n := range 20 * len(cases) {
				c := cases[(n+worker)%len(cases)]
				lineIs(t, c.s, c.want)
				lineFails(t, "a 1 ?", api.ErrByte)
				joinIs(t, c.want, wantJoin(c.want))
				lineFails(t, "a 1a", api.ErrNum)
			}
		})
	}
	group.Wait()
}
