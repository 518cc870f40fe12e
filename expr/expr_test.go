package expr

import (
	"fmt"
	"math"
	"slices"
	"strconv"
	"strings"
	"sync"
	"testing"
	"unsafe"

	"rivet/api"
	"rivet/name"
	"rivet/scan"
)

const (
	mostItems = 64
	mostDeep  = 8
)

// An item, and a token, of each kind.
func num(n uint32) api.Item          { return api.Item{Kind: 1, N: n} }
func label(s string) api.Item        { return api.Item{Kind: 2, Name: s} }
func numTk(n uint32) api.Token       { return api.Token{Kind: 2, Text: "7", N: n} }
func nameTk(s string) api.Token      { return api.Token{Kind: 1, Text: s} }
func signTk(s string) api.Token      { return api.Token{Kind: 3, Text: s} }
func dotTk(s string) api.Token       { return api.Token{Kind: 4, Text: s} }
func items(e ...api.Item) []api.Item { return e }

// kindMarks are the kinds of items that say nothing more, as they stand in a row of a test.
const kindMarks = "...~+-*"

// row is a row of items, written: numbers, names, ~ + - *.
func row(s string) []api.Item {
	var e []api.Item
	for _, word := range strings.Fields(s) {
		n, err := strconv.ParseUint(word, 10, 32)
		kind := strings.Index(kindMarks, word)
		switch {
		case err == nil:
			e = append(e, num(uint32(n)))
		case kind >= 3:
			e = append(e, api.Item{Kind: kind})
		default:
			e = append(e, label(word))
		}
	}
	return e
}

// written is row's other way.
func written(e []api.Item) string {
	var words []string
	for _, x := range e {
		switch {
		case x.Kind == 1:
			words = append(words, strconv.Itoa(int(x.N)))
		case x.Kind == 2:
			words = append(words, x.Name)
		default:
			words = append(words, kindMarks[x.Kind:x.Kind+1])
		}
	}
	return strings.Join(words, " ")
}

// tokens are those of a line whose tokens have blanks between; where they stand in it is of no matter.
func tokens(s string) []api.Token {
	var l []api.Token
	for at, word := range strings.Fields(s) {
		t := signTk(word)
		switch c := word[0]; {
		case c >= '0' && c <= '9':
			n, err := strconv.ParseUint(word, 10, 32)
			if err != nil {
				panic(word)
			}
			t = numTk(uint32(n))
		case c >= 'A' && c <= 'Z' || c >= 'a' && c <= 'z' || c == '_':
			t = nameTk(word)
		case c == '.':
			t = dotTk(word[1:])
		}
		t.At = 3*at + 5
		l = append(l, t)
	}
	return l
}

// shown is a list, for a message, cut where it is long.
func shown[T any](l []T) string { return fmt.Sprintf("%.400s", fmt.Sprintf("%+v", l)) }

func wellIs(t *testing.T, e []api.Item, want bool) {
	t.Helper()
	if Well(e) != want {
		t.Errorf("Well(%s) is %t", shown(e), !want)
	}
}

func parseIs(t *testing.T, l []api.Token, at int, want []api.Item, wantNext int) {
	t.Helper()
	if e, next, x := Parse(l, at); x != api.OK || next != wantNext || !slices.Equal(e, want) {
		t.Errorf("Parse(%s, %d) = %s, %d, %d, want %s, %d", shown(l), at, shown(e), next, x, shown(want), wantNext)
	}
}

// parseFails asks for the error, and that nothing is told beside it (R2).
func parseFails(t *testing.T, l []api.Token, at int, want api.Errno) {
	t.Helper()
	if e, next, x := Parse(l, at); x != want || next != 0 || len(e) != 0 {
		t.Errorf("Parse(%s, %d) = %s, %d, %d, want nothing, and the error %d", shown(l), at, shown(e), next, x, want)
	}
}

func textIs(t *testing.T, s string, want string) {
	t.Helper()
	l := tokens(s)
	parseIs(t, l, 0, row(want), len(l))
}

func textFails(t *testing.T, s string, want api.Errno) {
	t.Helper()
	parseFails(t, tokens(s), 0, want)
}

func printIs(t *testing.T, e []api.Item, want string) {
	t.Helper()
	if s, x := Print(e); x != api.OK || s != want {
		t.Errorf("Print(%s) = %.400q, %d, want %.400q", shown(e), s, x, want)
	}
}

// notWell asks that a row is no expression for Well, and for Print.
func notWell(t *testing.T, e []api.Item) {
	t.Helper()
	wellIs(t, e, false)
	if s, x := Print(e); x != api.ErrExpr || s != "" {
		t.Errorf("Print(%s) = %.400q, %d, want nothing, and ErrExpr", shown(e), s, x)
	}
}

// spread tells numbers of a fixed rule, the same ones in each run, each below a bound.
func spread() func(below int) int {
	x := uint32(2463534242)
	return func(below int) int {
		x ^= x << 13
		x ^= x >> 17
		x ^= x << 5
		return int(x % uint32(below))
	}
}

// wantWell is P15.1 of items that say what their kinds say: what works on something, and that, is something, till all of it is one.
func wantWell(e []api.Item) bool {
	s := ""
	for _, x := range e {
		s += string("xx~+++"[x.Kind-1])
	}
	for before := ""; s != before; {
		before = s
		s = strings.Replace(s, "x~", "x", 1)
		s = strings.Replace(s, "xx+", "x", 1)
	}
	return s == "x" && len(e) <= mostItems
}

// mark is what a token is to an expression: 1, a, one of its signs, or something else.
func mark(l []api.Token, at int) string {
	if at >= len(l) {
		return "none"
	}
	switch k := l[at]; {
	case k.Kind == 2:
		return "1"
	case k.Kind == 1 && name.Label(k.Text):
		return "a"
	case k.Kind == 3 && len(k.Text) == 1 && strings.Contains("+-*()", k.Text):
		return k.Text
	}
	return "none"
}

// yard is a row of signs that wait till what they work on has been read, and the items that were read.
type yard struct {
	items   []api.Item
	waiting string
}

func (y *yard) top() byte {
	if y.waiting == "" {
		return 0
	}
	return y.waiting[len(y.waiting)-1]
}

// drop takes the last one that waits; but a bracket it is an item now.
func (y *yard) drop() {
	if kind := strings.IndexByte(kindMarks, y.top()); kind >= 0 {
		y.items = append(y.items, api.Item{Kind: kind})
	}
	y.waiting = y.waiting[:len(y.waiting)-1]
}

func (y *yard) dropEach(of string) {
	for y.waiting != "" && strings.IndexByte(of, y.top()) >= 0 {
		y.drop()
	}
}

// wantParse is P15.2 of any tokens, by signs that wait.
func wantParse(l []api.Token, at int) ([]api.Item, int, api.Errno) {
	if at < 0 || at >= len(l) {
		return nil, 0, api.ErrExpr
	}
	y, must := yard{}, true
	for ; ; at++ {
		m := mark(l, at)
		switch {
		case must && strings.Count(y.waiting, "~")+strings.Count(y.waiting, "(") > mostDeep:
			return nil, 0, api.ErrDeep
		case must && m == "1":
			y.items, must = append(y.items, num(l[at].N)), false
			y.dropEach("~")
		case must && m == "a":
			y.items, must = append(y.items, label(l[at].Text)), false
			y.dropEach("~")
		case must && m == "-":
			y.waiting += "~"
		case must && m == "(":
			y.waiting += "("
		case must:
			return nil, 0, api.ErrExpr
		case m == "+" || m == "-":
			y.dropEach("+-*")
			y.waiting, must = y.waiting+m, true
		case m == "*":
			y.dropEach("*")
			y.waiting, must = y.waiting+m, true
		case m == ")" && strings.Contains(y.waiting, "("):
			y.dropEach("+-*")
			y.drop()
			y.dropEach("~")
		default:
			y.dropEach("+-*")
			if y.waiting != "" {
				return nil, 0, api.ErrExpr
			}
			if len(y.items) > mostItems {
				return nil, 0, api.ErrDeep
			}
			return y.items, at, api.OK
		}
	}
}

// holdParse asks for P15.2 of any tokens.
func holdParse(t *testing.T, l []api.Token, at int) api.Errno {
	t.Helper()
	want, next, x := wantParse(l, at)
	if x != api.OK {
		parseFails(t, l, at, x)
		return x
	}
	parseIs(t, l, at, want, next)
	wellIs(t, want, true)
	return api.OK
}

// tree is an item, and what it works on.
type tree struct {
	item api.Item
	on   []tree
}

// treeOf tells the tree of the last item, and the row ahead of it.
func treeOf(e []api.Item) (tree, []api.Item) {
	last := e[len(e)-1]
	e = e[:len(e)-1]
	one, two := tree{}, tree{}
	switch last.Kind {
	case 1, 2:
		return tree{item: last}, e
	case 3:
		one, e = treeOf(e)
		return tree{last, []tree{one}}, e
	}
	two, e = treeOf(e)
	one, e = treeOf(e)
	return tree{last, []tree{one, two}}, e
}

// bracketed is the chapter's rule, written out: what stands between brackets, as the first one and as the second one that an item works on.
var bracketed = map[string]string{"~1": "+-*", "*1": "+-", "*2": "+-*", "+1": "", "+2": "+-", "-1": "", "-2": "+-"}

func wantText(of tree) string {
	if of.item.Kind == 1 {
		return strconv.Itoa(int(of.item.N))
	}
	if of.item.Kind == 2 {
		return of.item.Name
	}
	m := written([]api.Item{of.item})
	var parts []string
	for n, part := range of.on {
		s := wantText(part)
		if part.item.Kind > 3 && strings.Contains(bracketed[m+strconv.Itoa(n+1)], written([]api.Item{part.item})) {
			s = "(" + s + ")"
		}
		parts = append(parts, s)
	}
	if m == "~" {
		return "-" + parts[0]
	}
	return strings.Join(parts, " "+m+" ")
}

func scanned(t *testing.T, s string) []api.Token {
	t.Helper()
	l, x := scan.Line(s)
	if x != api.OK {
		t.Errorf("Line(%q) tells the error %d", s, x)
	}
	return l
}

// holdPrint asks for P15.3 of an expression, and for P15.4.
func holdPrint(t *testing.T, e []api.Item) {
	t.Helper()
	of, _ := treeOf(e)
	text := wantText(of)
	printIs(t, e, text)
	l := scanned(t, text)
	if _, _, x := wantParse(l, 0); x == api.ErrDeep {
		parseFails(t, l, 0, api.ErrDeep)
		return
	}
	parseIs(t, l, 0, e, len(l))
	holdBrackets(t, l, e)
}

// holdBrackets asks that without any of its brackets a text is another expression, or none.
func holdBrackets(t *testing.T, l []api.Token, e []api.Item) {
	t.Helper()
	var open []int
	for at, k := range l {
		switch {
		case k.Text == "(":
			open = append(open, at)
		case k.Text == ")":
			from := open[len(open)-1]
			open = open[:len(open)-1]
			without := slices.Concat(l[:from], l[from+1:at], l[at+1:])
			if got, next, x := Parse(without, 0); x == api.OK && next == len(without) && slices.Equal(got, e) {
				t.Errorf("Print(%s) tells brackets that need not be, at %d and %d", shown(e), from, at)
			}
		}
	}
}

// P15.1

func wellRows() []string {
	return []string{
		"1", "a", "0", "4294967295", "_", "abcdefghijkl", "1 ~", "a ~", "1 ~ ~", "a ~ ~ ~", "1 2 +", "a b -", "1 a *", "a 1 +", "a a -",
		"1 2 + 3 +", "1 2 3 + +", "1 2 - 3 -", "1 2 3 - -", "1 2 * 3 *", "1 2 3 * *", "1 a 2 - *", "1 ~ 2 +", "1 2 ~ +", "1 2 + ~", "1 ~ 2 ~ *", "1 2 3 ~ ~ * ~ -",
		"1 2 + 3 4 + *", "1 2 3 4 + + +", "a b c d * - +", "1 2 * 3 4 * +", "a 0 + 0 - 0 * ~",
	}
}

func TestRowsThatAreWell(t *testing.T) {
	for _, s := range wellRows() {
		wellIs(t, row(s), true)
		if !wantWell(row(s)) || written(row(s)) != s {
			t.Errorf("the test's own reading of %q is wrong", s)
		}
	}
}

func TestRowsThatAreNotWell(t *testing.T) {
	for _, s := range []string{
		"", "~", "+", "-", "*", "1 2", "1 a", "a b", "1 +", "1 -", "1 *", "a +", "+ 1", "- 1", "* 1", "~ 1", "~ a", "1 + 2", "a - b", "1 * 2", "+ 1 2", "- a b", "1 2 + +", "1 2 3 +", "1 2 3", "1 2 + 3", "1 2 ~", "1 ~ 2", "1 ~ +", "~ ~", "1 2 + 3 4 +", "1 2 3 + + +", "1 2 3 4 + +", "1 2 + - 3 4", "1 ~ 2 ~", "~ 1 2 +", "1 2 3 ~ +",
	} {
		notWell(t, row(s))
		if wantWell(row(s)) {
			t.Errorf("the test's own reading of %q is wrong", s)
		}
	}
	notWell(t, []api.Item{})
}

// What is missing ahead is told, however much there is behind.
func TestWhatIsWorkedOnStandsAhead(t *testing.T) {
	for _, s := range wellRows() {
		for _, ahead := range []string{"~ ", "+ ", "- ", "* ", "1 + ", "a * ", "1 ~ - ", "1 ", "a "} {
			notWell(t, row(ahead+s))
		}
		for _, behind := range []string{" +", " -", " *", " 1", " a", " 1 2 +", " ~ 1"} {
			notWell(t, row(s+behind))
		}
		wellIs(t, row(s+" ~"), true)
		for _, m := range []string{" +", " -", " *"} {
			wellIs(t, row(s+" "+s+m), true)
			wellIs(t, row("1 "+s+m), true)
			wellIs(t, row(s+" a"+m), true)
		}
	}
}

func TestItemsOfEachKind(t *testing.T) {
	kinds := []int{math.MinInt, math.MaxInt, 1<<32 + 1, 1<<32 + 2, 1<<32 + 3, -1 << 32, 1<<8 + 1, 1<<16 + 2, 1<<31 + 4}
	for kind := -40; kind <= 300; kind++ {
		kinds = append(kinds, kind)
	}
	for _, kind := range kinds {
		for _, ahead := range []string{"", "1", "1 2", "1 2 3"} {
			of := append(row(ahead), api.Item{Kind: kind})
			if size := len(row(ahead)); kind == 1 && size == 0 || kind == 3 && size == 1 || (kind == 4 || kind == 5 || kind == 6) && size == 2 {
				wellIs(t, of, true)
			} else {
				notWell(t, of)
			}
			notWell(t, append(row(ahead), api.Item{Kind: kind, N: 1, Name: "a"}))
			if kind != 1 {
				notWell(t, append(row(ahead), api.Item{Kind: kind, N: 1}))
			}
			if kind != 2 {
				notWell(t, append(row(ahead), api.Item{Kind: kind, Name: "a"}))
			}
		}
	}
}

// The kinds have the names of package api.
func TestKindsByTheirNames(t *testing.T) {
	e := items(api.Item{Kind: api.ItNum, N: 9}, api.Item{Kind: api.ItName, Name: "a"}, api.Item{Kind: api.ItNeg}, api.Item{Kind: api.ItAdd}, api.Item{Kind: api.ItNum, N: 2}, api.Item{Kind: api.ItName, Name: "b"}, api.Item{Kind: api.ItMul}, api.Item{Kind: api.ItSub})
	wellIs(t, e, true)
	printIs(t, e, "9 + -a - 2 * b")
	parseIs(t, []api.Token{{Kind: api.TkNum, N: 9}, {Kind: api.TkSign, Text: "+"}, {Kind: api.TkSign, Text: "-"}, {Kind: api.TkName, Text: "a"}, {Kind: api.TkSign, Text: "-"}, {Kind: api.TkNum, N: 2}, {Kind: api.TkSign, Text: "*"}, {Kind: api.TkName, Text: "b"}, {Kind: api.TkDot, Text: "c"}}, 0, e, 8)
	if mostDeep != api.MaxDeep || mostItems != api.MaxItems {
		t.Error("the bounds are others than these tests have")
	}
}

// labelTexts are texts that are labels, and those that are not.
func labelTexts() (yes, no []string) {
	yes = []string{"a", "Z", "_", "__", "a1", "_1", "R", "RR", "Rx", "R1a", "R_", "R100", "r1", "R1_", "ADD", "word", "export", "abcdefghijkl", "ABCDEFGHIJ12", "____________", "R12345678901"}
	no = []string{"", "R0", "R1", "R9", "R15", "R16", "R99", "R00", "R01", "1", "1a", "9_", "abcdefghijklm", "R123456789012", strings.Repeat("a", 1000), " ", "a ", " a", "a b", "a.b", ".a", "-", "+", "(", "a-", "-a", "a\n", "\x00", "a\x00", "\xff", "a\xff", "\u00e9", "a\u00e9", "\u0430", "\uff41", "a:", "a;"}
	return yes, no
}

func TestNamesOfItems(t *testing.T) {
	yes, no := labelTexts()
	for _, s := range yes {
		for _, of := range [][]api.Item{items(label(s)), append(items(label(s)), row("~")...), append(items(label(s)), row("1 +")...), append(items(num(1), label(s)), row("*")...)} {
			wellIs(t, of, true)
			holdPrint(t, of)
		}
	}
	for _, s := range no {
		notWell(t, items(label(s)))
		notWell(t, append(items(label(s)), row("~")...))
		notWell(t, append(items(label(s)), row("1 +")...))
		notWell(t, append(items(num(1), label(s)), row("*")...))
	}
}

// A name, or a number, stands just at the items that have one.
func TestItemsThatSayTooMuch(t *testing.T) {
	for _, s := range wellRows() {
		for at, x := range row(s) {
			for _, name := range []string{"a", "R1", " ", "1", "\x00", "+"} {
				of := row(s)
				of[at].Name = name
				if x.Kind != 2 {
					notWell(t, of)
				}
			}
			for _, n := range []uint32{1, 2, 7, 1 << 16, 1 << 31, 1<<32 - 1} {
				of := row(s)
				of[at].N = n
				if x.Kind != 1 {
					notWell(t, of)
				} else {
					wellIs(t, of, true)
				}
			}
			for _, kind := range []int{0, -1, 7, 8, 1<<32 + x.Kind} {
				of := row(s)
				of[at].Kind = kind
				notWell(t, of)
			}
		}
	}
	for _, n := range []uint32{0, 1, 1<<31 - 1, 1 << 31, 1<<32 - 1} {
		wellIs(t, items(num(n)), true)
		printIs(t, items(num(n)), fmt.Sprint(n))
		notWell(t, items(api.Item{Kind: 1, N: n, Name: "a"}))
	}
}

// rowsOf are rows of so many items, well but for how many they are.
func rowsOf(size int) []string {
	var all []string
	for negs := range 4 {
		parts := (size - negs + 1) / 2
		if parts < 1 || 2*parts-1+negs != size {
			continue
		}
		for _, m := range []string{" +", " -", " *"} {
			minus := strings.Repeat(" ~", negs)
			all = append(all,
				"1"+minus+strings.Repeat(" a"+m, parts-1),
				"a"+strings.Repeat(" 2"+m, parts-1)+minus,
				strings.Repeat("1 ", parts)+strings.Repeat(m, parts-1)+minus)
		}
	}
	return append(all, "1"+strings.Repeat(" ~", size-1))
}

func TestHowManyItemsThereMayBe(t *testing.T) {
	for size := 1; size <= 130; size++ {
		for _, s := range rowsOf(size) {
			e := row(s)
			if len(e) != size {
				t.Fatalf("%q has %d items, not %d", s, len(e), size)
			}
			if size <= mostItems {
				wellIs(t, e, true)
				holdPrint(t, e)
			} else {
				notWell(t, e)
			}
		}
	}
	for _, size := range []int{1000, 1 << 16, 1<<18 + 1} {
		notWell(t, slices.Concat(row("1"), slices.Repeat(row("~"), size)))
		notWell(t, slices.Concat(row("1"), slices.Repeat(row("a +"), size)))
		notWell(t, slices.Repeat(row("a"), size))
		notWell(t, slices.Repeat(row("*"), size))
	}
}

// eachRow goes through all rows of so many of these words.
func eachRow(size int, words []string, look func(of []string)) {
	count := 1
	for range size {
		count *= len(words)
	}
	of := make([]string, size)
	for n := range count {
		for at, rest := 0, n; at < size; at, rest = at+1, rest/len(words) {
			of[at] = words[rest%len(words)]
		}
		look(of)
	}
}

// Each short row of items is well just if it comes to one; if it is, its text has the chapter's brackets, and is parsed to the same row.
func TestEachShortRowOfItems(t *testing.T) {
	well := 0
	for size := range 8 {
		eachRow(size, strings.Fields("1 a ~ + - *"), func(of []string) {
			e := row(strings.Join(of, " "))
			if !wantWell(e) {
				notWell(t, e)
				return
			}
			well++
			wellIs(t, e, true)
			holdPrint(t, e)
		})
	}
	if well < 5000 {
		t.Errorf("just %d rows are well", well)
	}
}

// P15.2: what is read

type parseCase struct{ text, want string }

func parseCases() []parseCase {
	return []parseCase{
		{"1", "1"}, {"0", "0"}, {"4294967295", "4294967295"}, {"a", "a"}, {"_9", "_9"}, {"- 1", "1 ~"}, {"- a", "a ~"}, {"( 1 )", "1"}, {"( a )", "a"}, {"( ( 1 ) )", "1"}, {"- - 1", "1 ~ ~"}, {"- ( 1 )", "1 ~"}, {"( - 1 )", "1 ~"}, {"- ( - ( 1 ) )", "1 ~ ~"},
		{"1 * ( a - 2 )", "1 a 2 - *"},
		{"1 + 2", "1 2 +"}, {"1 - 2", "1 2 -"}, {"1 * 2", "1 2 *"}, {"1 + 2 + 3", "1 2 + 3 +"}, {"1 - 2 - 3", "1 2 - 3 -"}, {"1 * 2 * 3", "1 2 * 3 *"}, {"1 + 2 - 3", "1 2 + 3 -"}, {"1 - 2 + 3", "1 2 - 3 +"},
		{"1 + 2 * 3", "1 2 3 * +"}, {"1 * 2 + 3", "1 2 * 3 +"}, {"1 - 2 * 3", "1 2 3 * -"}, {"1 * 2 - 3", "1 2 * 3 -"}, {"1 * 2 + 3 * 4", "1 2 * 3 4 * +"}, {"1 + 2 * 3 - 4", "1 2 3 * + 4 -"}, {"1 + 2 * 3 * 4 - 5", "1 2 3 * 4 * + 5 -"}, {"1 * 2 * 3 - 4 * 5 * 6", "1 2 * 3 * 4 5 * 6 * -"},
		{"( 1 + 2 ) + 3", "1 2 + 3 +"}, {"1 + ( 2 + 3 )", "1 2 3 + +"}, {"1 - ( 2 - 3 )", "1 2 3 - -"}, {"1 * ( 2 * 3 )", "1 2 3 * *"}, {"( 1 + 2 ) * 3", "1 2 + 3 *"}, {"1 * ( 2 + 3 )", "1 2 3 + *"}, {"( 1 * 2 ) + 3", "1 2 * 3 +"}, {"( 1 + 2 ) * ( 3 - 4 )", "1 2 + 3 4 - *"}, {"( ( 1 + 2 ) )", "1 2 +"}, {"( 1 + ( 2 * ( 3 - 4 ) ) )", "1 2 3 4 - * +"},
		{"- 1 + 2", "1 ~ 2 +"}, {"- 1 * 2", "1 ~ 2 *"}, {"- 1 - - 2", "1 ~ 2 ~ -"}, {"1 + - 2", "1 2 ~ +"}, {"1 - - 2", "1 2 ~ -"}, {"1 - - - 2", "1 2 ~ ~ -"}, {"1 * - 2", "1 2 ~ *"}, {"1 * - 2 * 3", "1 2 ~ * 3 *"}, {"- ( 1 + 2 )", "1 2 + ~"}, {"- ( 1 + 2 ) * 3", "1 2 + ~ 3 *"}, {"- ( 1 * 2 )", "1 2 * ~"}, {"- - ( 1 - - 2 )", "1 2 ~ - ~ ~"}, {"1 - ( - 2 )", "1 2 ~ -"}, {"( - 1 ) * 2", "1 ~ 2 *"},
		{"a + b * c - d", "a b c * + d -"}, {"ADD * word", "ADD word *"}, {"- R * R100", "R ~ R100 *"},
	}
}

func TestNamedExpressions(t *testing.T) {
	for _, c := range parseCases() {
		textIs(t, c.text, c.want)
		l := tokens(c.text)
		if want, next, x := wantParse(l, 0); x != api.OK || next != len(l) || written(want) != c.want {
			t.Errorf("the test's own reading of %q is %s, %d, %d, want %s", c.text, shown(want), next, x, c.want)
		}
	}
}

// What stands ahead is not looked at; what stands behind is not read, and its place is told.
func TestPlacesOfExpressions(t *testing.T) {
	for _, c := range parseCases() {
		one := tokens(c.text)
		for _, ahead := range []string{"1", "a", "+", "- -", "( (", ")", ", .word", "R1", "1 + 2", "( 1 +", "- - - - - - - - - -", strings.Repeat("( ", 20), strings.Repeat("1 + ", 80)} {
			for _, behind := range []string{"", ",", ":", "=", ")", "(", "1", "a", "R1", ".word", ") + 1", "( 2 )", "7 + 1", "a * 2", ", - 1", "1 -", ") )", ":: 1", ", ( ( ( ( ( ( ( ( ("} {
				l := slices.Concat(tokens(ahead), one, tokens(behind))
				from := len(tokens(ahead))
				parseIs(t, l, from, row(c.want), from+len(one))
			}
		}
	}
}

// Behind an expression each token but its signs ends it, whatever it says.
func TestTokensThatEndAnExpression(t *testing.T) {
	for _, c := range parseCases() {
		one := tokens(c.text)
		for kind := -3; kind <= 9; kind++ {
			for _, s := range []string{"+", "-", "*", "(", ")", ",", ":", "=", "/", "", "a", "1", "R1", "++", "--", "**", "+-", " +", "+ ", "-1", "*a", "plus", "\u2212", "\u00d7", "\uff0b", "\x00"} {
				if kind == 3 && (s == "+" || s == "-" || s == "*") {
					continue
				}
				l := append(slices.Clone(one), api.Token{Kind: kind, Text: s, N: 1}, numTk(7))
				parseIs(t, l, 0, row(c.want), len(one))
				parseIs(t, l[:len(one)+1], 0, row(c.want), len(one))
			}
		}
	}
}

// A sign that may stand between two parts, and stands behind one, is one.
func TestSignsBehindAPartAreOfIt(t *testing.T) {
	for _, c := range parseCases() {
		for _, m := range []string{"+", "-", "*"} {
			for _, behind := range []string{"", " ,", " )", " :", " =", " +", " *", " .word", " R1", " R16", " /", " ( )", " (", " ( 1", " -", " - -", " - ,", " - R1", " - )", " ( - )", " abcdefghijklm"} {
				textFails(t, c.text+" "+m+behind, api.ErrExpr)
				textFails(t, "( "+c.text+" ) "+m+behind, api.ErrExpr)
				textFails(t, "( "+c.text+" "+m+behind+" )", api.ErrExpr)
			}
		}
	}
}

type part struct{ text, want string }

// factors are one of each kind and form.
func factors() []part {
	return []part{{"1", "1"}, {"a", "a"}, {"- 2", "2 ~"}, {"- b", "b ~"}, {"( 3 )", "3"}, {"( c )", "c"}, {"( 4 + d )", "4 d +"}, {"( 5 * e )", "5 e *"}, {"( - 6 )", "6 ~"}, {"- - 7", "7 ~ ~"}, {"- ( 8 - f )", "8 f - ~"}, {"( ( g ) )", "g"}}
}

func TestEachTwoFactors(t *testing.T) {
	for _, one := range factors() {
		textIs(t, one.text, one.want)
		textIs(t, "- "+one.text, one.want+" ~")
		textIs(t, "( "+one.text+" )", one.want)
		for _, two := range factors() {
			for _, m := range []string{"+", "-", "*"} {
				textIs(t, one.text+" "+m+" "+two.text, one.want+" "+two.want+" "+m)
			}
			// Without a sign between, the second one is behind the expression; but a minus is a sign.
			if l := tokens(one.text + " " + two.text); two.text[0] == '-' {
				textIs(t, one.text+" "+two.text, one.want+" "+strings.TrimSuffix(two.want, " ~")+" -")
			} else {
				parseIs(t, l, 0, row(one.want), len(tokens(one.text)))
			}
		}
	}
}

func TestEachThreeFactors(t *testing.T) {
	for _, one := range factors() {
		for _, two := range factors() {
			for _, three := range factors() {
				for _, first := range []string{"+", "-", "*"} {
					for _, second := range []string{"+", "-", "*"} {
						s := one.text + " " + first + " " + two.text + " " + second + " " + three.text
						if second == "*" && first != "*" {
							textIs(t, s, one.want+" "+two.want+" "+three.want+" * "+first)
						} else {
							textIs(t, s, one.want+" "+two.want+" "+first+" "+three.want+" "+second)
						}
					}
				}
			}
		}
	}
}

// Rows of one sign, and of each two, go from the left.
func TestLongRows(t *testing.T) {
	for parts := 1; parts <= 32; parts++ {
		for _, m := range []string{"+", "-", "*"} {
			text, want := "0", "0"
			mixed, wantMixed := "0", "0"
			for n := 1; n < parts; n++ {
				text += fmt.Sprintf(" %s %d", m, n)
				want += fmt.Sprintf(" %d %s", n, m)
				between := []string{"+", "-"}[n%2]
				mixed += fmt.Sprintf(" %s %d", between, n)
				wantMixed += fmt.Sprintf(" %d %s", n, between)
			}
			textIs(t, text, want)
			textIs(t, mixed, wantMixed)
			textIs(t, "( "+text+" )", want)
		}
		// Sums of products, and products of sums.
		if parts <= 16 {
			textIs(t, "1 * 2"+strings.Repeat(" + 3 * 4", parts-1), "1 2 *"+strings.Repeat(" 3 4 * +", parts-1))
			textIs(t, "1 * 2"+strings.Repeat(" - 3 * 4", parts-1), "1 2 *"+strings.Repeat(" 3 4 * -", parts-1))
			textIs(t, "( 1 + 2 )"+strings.Repeat(" * ( 3 - 4 )", parts-1), "1 2 +"+strings.Repeat(" 3 4 - *", parts-1))
		}
	}
}

func TestNumbersOfTokens(t *testing.T) {
	for _, n := range []uint32{0, 1, 9, 10, 1<<31 - 1, 1 << 31, 1<<32 - 2, 1<<32 - 1} {
		for _, s := range []string{"", "0", "7", "0x10", "a", "R1", "+", "-", "(", ")", "no number"} {
			parseIs(t, []api.Token{{Kind: 2, Text: s, N: n}}, 0, items(num(n)), 1)
			parseIs(t, []api.Token{signTk("-"), {Kind: 2, At: 99, Text: s, N: n}, signTk("*"), {Kind: 2, At: -7, Text: s, N: n}}, 0, append(items(num(n)), api.Item{Kind: 3}, num(n), api.Item{Kind: 6}), 4)
		}
	}
}

func TestNamesOfTokens(t *testing.T) {
	yes, no := labelTexts()
	for _, s := range yes {
		// The number of a token that is no number is of no matter.
		for _, n := range []uint32{0, 1, 1<<32 - 1} {
			parseIs(t, []api.Token{{Kind: 1, At: 4, Text: s, N: n}}, 0, items(label(s)), 1)
		}
		parseIs(t, []api.Token{signTk("("), nameTk(s), signTk("-"), nameTk(s), signTk(")")}, 0, append(items(label(s), label(s)), row("-")...), 5)
	}
	for _, s := range no {
		parseFails(t, []api.Token{nameTk(s)}, 0, api.ErrExpr)
		parseFails(t, []api.Token{nameTk(s), signTk("+"), numTk(1)}, 0, api.ErrExpr)
		parseFails(t, []api.Token{numTk(1), signTk("+"), nameTk(s)}, 0, api.ErrExpr)
		parseFails(t, []api.Token{signTk("-"), nameTk(s)}, 0, api.ErrExpr)
		parseFails(t, []api.Token{signTk("("), nameTk(s), signTk(")")}, 0, api.ErrExpr)
		parseIs(t, []api.Token{numTk(1), nameTk(s)}, 0, items(num(1)), 1)
	}
}

// What a sign is hangs on its kind and on its text, on nothing else of it.
func TestSignsOfTokens(t *testing.T) {
	for _, k := range []api.Token{{At: 0}, {At: 77}, {At: -1}, {N: 5}, {At: math.MaxInt, N: 1<<32 - 1}} {
		s := func(text string) api.Token { return api.Token{Kind: 3, At: k.At, Text: text, N: k.N} }
		parseIs(t, []api.Token{s("-"), s("("), numTk(1), s("+"), numTk(2), s(")"), s("*"), numTk(3), s("-"), numTk(4), s(",")}, 0, row("1 2 + ~ 3 * 4 -"), 10)
	}
	for kind := -5; kind <= 300; kind++ {
		if kind == 3 {
			continue
		}
		s := func(text string) api.Token { return api.Token{Kind: kind, Text: text} }
		for _, m := range []string{"+", "-", "*"} {
			parseIs(t, []api.Token{numTk(1), s(m), numTk(2)}, 0, items(num(1)), 1)
			if kind != 2 {
				parseFails(t, []api.Token{s(m), numTk(2)}, 0, api.ErrExpr)
			}
		}
		parseFails(t, []api.Token{signTk("("), numTk(1), s(")")}, 0, api.ErrExpr)
		if kind != 2 {
			parseFails(t, []api.Token{s("("), numTk(1), signTk(")")}, 0, api.ErrExpr)
			parseFails(t, []api.Token{s("7")}, 0, api.ErrExpr)
		}
		if kind != 1 && kind != 2 {
			parseFails(t, []api.Token{s("a")}, 0, api.ErrExpr)
			parseFails(t, []api.Token{{Kind: kind, Text: "a", N: 1}}, 0, api.ErrExpr)
		}
	}
	for _, s := range []string{"", "/", "--", "((", "()", " -", "- ", "( ", "(1)", "a", "1", "=", ":", ",", ")", "+", "*", "\u2212", "\uff08", "\u207b", "\x00", "-\x00", "\xff"} {
		parseFails(t, []api.Token{signTk(s)}, 0, api.ErrExpr)
		parseFails(t, []api.Token{signTk(s), numTk(1)}, 0, api.ErrExpr)
		parseFails(t, []api.Token{signTk(s), numTk(1), signTk(")")}, 0, api.ErrExpr)
		parseFails(t, []api.Token{numTk(1), signTk("*"), signTk(s), numTk(1)}, 0, api.ErrExpr)
		if s != ")" && s != "+" && s != "*" {
			parseFails(t, []api.Token{signTk("("), numTk(1), signTk(s)}, 0, api.ErrExpr)
		}
	}
}

// P15.2: what is none

func TestTextsThatAreNoExpressions(t *testing.T) {
	for _, s := range []string{
		"", "+", "*", ")", ",", ":", "=", "/", ".word", "R1", "R16", "abcdefghijklm", "-", "(", "- -", "( (", "- (", "( -", "- )", "- +", "- *", "- ,", "- R1", "- .a", "( )", "( +", "( *", "( ,", "( R1", "( .a", "( ) )", "+ 1", "* 1", ") 1", "= 1", "+ a", "+ ( 1 )",
		"( 1", "( a", "( 1 2", "( 1 a", "( 1 ,", "( 1 ,)", "( 1 (", "( 1 ( 2 )", "( 1 .a )", "( 1 R1 )", "( 1 = )", "( ( 1 )", "( ( 1", "( 1 + 2", "( 1 * 2", "( 1 + 2 ,", "- ( 1", "( - 1", "( 1 + ( 2 )", "1 + ( 2", "1 * ( 2", "1 * - ( 2", "( 1 ) + ( 2", "( 1 + ( 2 * 3 )",
		"1 +", "1 -", "1 *", "a +", "1 + +", "1 + *", "1 * *", "1 * +", "1 - *", "1 + + 2", "1 * * 2", "1 * + 2", "1 + )", "1 + , 2", "1 * R1", "1 + .a", "1 + 2 *", "1 * 2 +", "1 + 2 - 3 *", "1 - -", "1 * -", "1 + - - +", "( 1 + )", "( 1 * )", "( 1 - - )", "( + 1 )", "( 1 ) *", "1 + ( )", "1 * ( 2 + )", "( ) + 1", "1 + ( 2 + R1 )", "- ( 1 + ) 2",
	} {
		textFails(t, s, api.ErrExpr)
		if s != "" {
			textFails(t, "( "+s+" )", api.ErrExpr)
			textFails(t, "- "+s, api.ErrExpr)
			textFails(t, "1 + "+s, api.ErrExpr)
			textFails(t, "a * "+s, api.ErrExpr)
			textFails(t, "( 2 - "+s, api.ErrExpr)
		}
	}
}

// Each place of an expression, but where a part may end, cut off, is none.
func TestExpressionsCutOff(t *testing.T) {
	for _, c := range parseCases() {
		l := tokens(c.text)
		for end := range len(l) + 1 {
			for at := range end + 1 {
				holdParse(t, l[:end], at)
			}
			for _, k := range []api.Token{nameTk("R1"), nameTk("zz"), numTk(5), signTk("+"), signTk("-"), signTk("*"), signTk("("), signTk(")"), signTk(","), dotTk("a"), {}} {
				holdParse(t, slices.Concat(l[:end], []api.Token{k}, l[end:]), 0)
				if end < len(l) {
					holdParse(t, slices.Concat(l[:end], []api.Token{k}, l[end+1:]), 0)
				}
			}
			if end < len(l) {
				holdParse(t, slices.Concat(l[:end], l[end+1:]), 0)
			}
		}
	}
}

func TestPlacesThatThereAreNot(t *testing.T) {
	for _, s := range []string{"", "1", "a", "1 + 2", "( 1 )", "- 1 , 2", "1 +", strings.Repeat("( ", 9)} {
		l := tokens(s)
		for _, at := range []int{-1, -2, -3, -4, -100, math.MinInt, math.MinInt + 1, -1 << 32, len(l), len(l) + 1, len(l) + 2, 100, 1 << 31, 1 << 32, math.MaxInt - 1, math.MaxInt} {
			parseFails(t, l, at, api.ErrExpr)
		}
		// What stands in the room behind a list is no token of it.
		if len(l) > 0 {
			room := append(slices.Clone(l), numTk(1), signTk("+"), numTk(2))
			parseFails(t, room[:len(l)], len(l), api.ErrExpr)
		}
	}
	parseFails(t, nil, 0, api.ErrExpr)
	parseIs(t, append(tokens("1 +"), numTk(2))[:1], 0, row("1"), 1)
	parseIs(t, tokens("( 9 + a"), 3, row("a"), 4)
	parseIs(t, tokens("( 9 + a"), 1, row("9 a +"), 4)
}

// P15.2: too deep

// openers are each row of so many minus signs and brackets, with the signs that close it, and how many minus signs it has.
func openers(size int, look func(open, shut string, negs int)) {
	eachRow(size, []string{"-", "("}, func(of []string) {
		brackets := strings.Count(strings.Join(of, ""), "(")
		open := strings.Join(of, " ") + " "
		look(open, strings.Repeat(" )", brackets), size-brackets)
	})
}

func TestFactorsWithinFactors(t *testing.T) {
	for size := range 13 {
		openers(size, func(open, shut string, negs int) {
			minus := strings.Repeat(" ~", negs)
			if size > mostDeep {
				for _, s := range []string{"7" + shut, "7", "", "R1", "+", ")", ",", "1 + 2" + shut, "a" + shut + " + 1", "1 +", ".a"} {
					textFails(t, open+s, api.ErrDeep)
					textFails(t, "1 + "+open+s, api.ErrDeep)
					textFails(t, "a * "+open+s, api.ErrDeep)
				}
				parseFails(t, tokens("9 , "+open), 2, api.ErrDeep)
				return
			}
			textIs(t, open+"7"+shut, "7"+minus)
			textIs(t, open+"a"+shut, "a"+minus)
			textIs(t, open+"7"+shut+" + "+open+"8"+shut, "7"+minus+" 8"+minus+" +")
			textIs(t, open+"7"+shut+" * "+open+"8"+shut, "7"+minus+" 8"+minus+" *")
			if shut != "" {
				textFails(t, open+"7", api.ErrExpr)
				textFails(t, open+"7"+strings.TrimSuffix(shut, " )"), api.ErrExpr)
				textFails(t, open+"7 +"+shut, api.ErrExpr)
			}
			if open != " " {
				for _, s := range []string{"", "R1", "+", "*", ")", ",", ".a"} {
					textFails(t, open+s, api.ErrExpr)
				}
			}
		})
	}
}

// How deep it is is counted anew for each factor: what has been closed, or stands beside, counts no more.
func TestDepthIsOfEachFactorAlone(t *testing.T) {
	for within := range 10 {
		open, shut := strings.Repeat("( ", within), strings.Repeat(" )", within)
		for _, inner := range []part{{"1", "1"}, {"- 1", "1 ~"}, {"( 1 )", "1"}, {"- ( 1 )", "1 ~"}, {"1 + - 2", "1 2 ~ +"}, {"- 1 * - 2 * - 3", "1 ~ 2 ~ * 3 ~ *"}, {"( 1 ) + ( 2 ) + ( 3 )", "1 2 + 3 +"}, {"1 + ( 2 + ( 3 ) )", "1 2 3 + +"}, {"- - 1 - - - 2", "1 ~ ~ 2 ~ ~ -"}, {"- 1 + ( 2 ) + ( - 3 )", "1 ~ 2 + 3 ~ +"}, {"( ( ( 1 ) ) ) + 2", "1 2 +"}} {
			// How deep the parts alone are, of the signs that nothing closes yet.
			deep, most, minus := 0, 0, 0
			must := true
			for _, word := range strings.Fields(inner.text) {
				switch {
				case word == "(":
					deep, must = deep+1, true
				case word == ")":
					deep, minus, must = deep-1, 0, false
				case word == "-" && must:
					minus++
				case word == "+" || word == "-" || word == "*":
					minus, must = 0, true
				default:
					must = false
				}
				most = max(most, deep+minus)
			}
			if within+most > mostDeep {
				textFails(t, open+inner.text+shut, api.ErrDeep)
			} else {
				textIs(t, open+inner.text+shut, inner.want)
			}
		}
	}
	textIs(t, "- - - - - - - - 1 * - - - - - - - - 2 - - - - - - - - - 3", "1 ~ ~ ~ ~ ~ ~ ~ ~ 2 ~ ~ ~ ~ ~ ~ ~ ~ * 3 ~ ~ ~ ~ ~ ~ ~ ~ -")
	textFails(t, "- - - - - - - - 1 * - - - - - - - - 2 - - - - - - - - - - 3", api.ErrDeep)
	textIs(t, strings.Repeat("( ", 8)+"1"+strings.Repeat(" )", 8)+strings.Repeat(" + "+strings.Repeat("( ", 8)+"2"+strings.Repeat(" )", 8), 31), "1"+strings.Repeat(" 2 +", 31))
}

// Of what is wrong the first one that is come to is told.
func TestTheFirstErrorIsTold(t *testing.T) {
	deep := []string{strings.Repeat("( ", 9), strings.Repeat("- ", 9), "- ( - ( - ( - ( - ", "( ( ( ( ( ( ( ( - ", "- - - - - - - - ( "}
	for _, d := range deep {
		for _, s := range []string{"R1 ", "+ ", ") ", ", ", "* ", "1 + R1 ", "1 + * ", "( ) ", "1 * ) ", "( 1 + ) ", "- R1 "} {
			textFails(t, s+d, api.ErrExpr)
			textFails(t, s+d+"1", api.ErrExpr)
			textFails(t, d+s, api.ErrDeep)
		}
		for _, s := range []string{"", "1", "R1", "1 R1", ") ) )", ", ,"} {
			textFails(t, d+s, api.ErrDeep)
			textFails(t, "1 + "+d+s, api.ErrDeep)
			textFails(t, "( 1 + "+d+s, api.ErrDeep)
			textFails(t, "1 * 2 * "+d+s, api.ErrDeep)
		}
		// An expression that has ended is not gone behind.
		parseIs(t, tokens("1 , "+d), 0, row("1"), 1)
		parseIs(t, tokens("1 ( "+d), 0, row("1"), 1)
	}
}

// sumOf is a text of so many numbers, with a sign between.
func sumOf(parts int, m string) string { return "1" + strings.Repeat(" "+m+" 1", parts-1) }

// rowOf is an expression of so many numbers, with one sign between, and with minus signs ahead of the first one, ahead of the last one, or ahead of it all.
func rowOf(parts int, m string, negs, form int) (text, want string) {
	minus, neg := strings.Repeat("- ", negs), strings.Repeat(" ~", negs)
	more := strings.Repeat(" 1 "+m, parts-1)
	switch {
	case form == 0:
		return minus + sumOf(parts, m), "1" + neg + more
	case form == 1:
		return minus + "( " + sumOf(parts, m) + " )", "1" + more + neg
	case parts == 1:
		return minus + "1", "1" + neg
	}
	return sumOf(parts-1, m) + " " + m + " " + minus + "a", "1" + strings.Repeat(" 1 "+m, parts-2) + " a" + neg + " " + m
}

func TestHowManyItemsAreParsed(t *testing.T) {
	for parts := 1; parts <= 70; parts++ {
		for n := range 7 * 3 * 3 {
			negs, form, m := n%7, n/7%3, []string{"+", "-", "*"}[n/21]
			text, want := rowOf(parts, m, negs, form)
			if 2*parts-1+negs <= mostItems {
				textIs(t, text, want)
				textIs(t, "( "+text+" )", want)
				continue
			}
			for _, behind := range []string{"", " , 1", " )", " 1", " R1", " ("} {
				textFails(t, text+behind, api.ErrDeep)
			}
			// Where something must follow and does not, nothing was read that could be too much.
			for _, behind := range []string{" +", " * R1", " - )", " + ( 1", " - - *"} {
				textFails(t, text+behind, api.ErrExpr)
			}
			textFails(t, "( "+text, api.ErrExpr)
			textFails(t, "1 + ( "+text+" ,", api.ErrExpr)
		}
	}
}

// What stands behind an expression is not counted, nor are brackets.
func TestWhatIsNotCounted(t *testing.T) {
	full := sumOf(32, "+")
	for _, behind := range []string{"1", "a 1 + 2", ", 1 + 2", ")", "( 1 + 2 )", "( 1", ".word " + full} {
		l := tokens("- " + full + " " + behind)
		parseIs(t, l, 0, row("1 ~"+strings.Repeat(" 1 +", 31)), 64)
	}
	textIs(t, strings.Repeat("( ", 7)+"- "+full+strings.Repeat(" )", 7), "1 ~"+strings.Repeat(" 1 +", 31))
	textFails(t, strings.Repeat("( ", 7)+"- - "+full+strings.Repeat(" )", 7), api.ErrDeep)
	l := tokens(sumOf(200, "*"))
	for at := range l {
		holdParse(t, l, at)
	}
}

// P15.2: held against signs that wait

func TestEachShortRowOfTokens(t *testing.T) {
	seen := map[api.Errno]int{}
	hold := func(ahead string, size int, words string) {
		eachRow(size, strings.Fields(words), func(of []string) {
			seen[holdParse(t, tokens(ahead+strings.Join(of, " ")), 0)]++
		})
	}
	for size := range 6 {
		hold("", size, "1 a R1 + - * ( ) ,")
		hold("( ( ( ( ( ( ( ", size, "1 + - ( ) ,")
		hold("- - ( ( - - ", size, "a * - ( )")
	}
	hold("", 6, "1 + - * ( )")
	hold("", 7, "a - * ( )")
	hold("- ( - ( - - ", 6, "1 + - ( )")
	for _, x := range []api.Errno{api.OK, api.ErrExpr, api.ErrDeep} {
		if seen[x] < 2000 {
			t.Errorf("the error %d was told %d times only", x, seen[x])
		}
	}
}

// spreadText is a long row of tokens, that goes wrong just now and then.
func spreadText(next func(int) int, size, wrong, deeper int) string {
	var words []string
	open, must := 0, true
	for range size {
		switch roll := next(1000); {
		case roll < wrong:
			words = append(words, strings.Fields("1 a R1 + - * ( ) , .a = :")[next(12)])
		case must && roll < deeper:
			words, open = append(words, "("), open+1
		case must && roll < 2*deeper:
			words = append(words, "-")
		case must:
			words, must = append(words, strings.Fields("1 22 a b_2 4294967295")[next(5)]), false
		case open > 0 && roll < 450:
			words, open = append(words, ")"), open-1
		default:
			words, must = append(words, strings.Fields("+ - *")[next(3)]), true
		}
	}
	if must {
		words = append(words, "7")
	}
	return strings.Join(words, " ") + strings.Repeat(" )", open)
}

func TestSpreadRowsOfTokens(t *testing.T) {
	next := spread()
	seen := map[api.Errno]int{}
	most := 0
	for range 20000 {
		l := tokens(spreadText(next, 1+next(90), next(20), next(400)))
		seen[holdParse(t, l, 0)]++
		holdParse(t, l, next(len(l)+3)-1)
		if e, _, x := Parse(l, 0); x == api.OK {
			most = max(most, len(e))
			holdPrint(t, e)
		}
	}
	for _, x := range []api.Errno{api.OK, api.ErrExpr, api.ErrDeep} {
		if seen[x] < 1000 {
			t.Errorf("the error %d was told %d times only", x, seen[x])
		}
	}
	if most < 60 {
		t.Errorf("the greatest expression had just %d items", most)
	}
}

// P15.3

func TestNamedTexts(t *testing.T) {
	for items, want := range map[string]string{
		"1": "1", "0": "0", "10": "10", "2147483648": "2147483648", "4294967295": "4294967295", "a": "a", "_9": "_9", "abcdefghijkl": "abcdefghijkl",
		"1 ~": "-1", "a ~": "-a", "0 ~": "-0", "4294967295 ~": "-4294967295", "1 ~ ~": "--1", "a ~ ~ ~": "---a",
		"1 2 +": "1 + 2", "1 2 -": "1 - 2", "1 2 *": "1 * 2", "a b +": "a + b", "a 1 -": "a - 1", "1 a *": "1 * a",
		"1 a 2 - *": "1 * (a - 2)",
		// Behind a minus.
		"1 2 + ~": "-(1 + 2)", "1 2 - ~": "-(1 - 2)", "1 2 * ~": "-(1 * 2)", "1 2 + ~ ~": "--(1 + 2)", "1 2 ~ + ~": "-(1 + -2)",
		// The first one, and the second one, of a sum.
		"1 2 + 3 +": "1 + 2 + 3", "1 2 - 3 +": "1 - 2 + 3", "1 2 * 3 +": "1 * 2 + 3", "1 ~ 3 +": "-1 + 3", "1 2 3 + +": "1 + (2 + 3)", "1 2 3 - +": "1 + (2 - 3)", "1 2 3 * +": "1 + 2 * 3", "1 2 ~ +": "1 + -2",
		// Of a difference.
		"1 2 + 3 -": "1 + 2 - 3", "1 2 - 3 -": "1 - 2 - 3", "1 2 * 3 -": "1 * 2 - 3", "1 ~ 3 -": "-1 - 3", "1 2 3 + -": "1 - (2 + 3)", "1 2 3 - -": "1 - (2 - 3)", "1 2 3 * -": "1 - 2 * 3", "1 2 ~ -": "1 - -2",
		// Of a product.
		"1 2 + 3 *": "(1 + 2) * 3", "1 2 - 3 *": "(1 - 2) * 3", "1 2 * 3 *": "1 * 2 * 3", "1 ~ 3 *": "-1 * 3", "1 2 3 + *": "1 * (2 + 3)", "1 2 3 - *": "1 * (2 - 3)", "1 2 3 * *": "1 * (2 * 3)", "1 2 ~ *": "1 * -2",
		"1 2 + ~ 3 *": "-(1 + 2) * 3", "1 2 * ~ 3 *": "-(1 * 2) * 3", "1 2 + 3 4 - *": "(1 + 2) * (3 - 4)", "1 2 + 3 4 + +": "1 + 2 + (3 + 4)", "1 2 * 3 4 * +": "1 * 2 + 3 * 4", "1 2 * 3 4 * *": "1 * 2 * (3 * 4)", "1 2 * 3 4 * -": "1 * 2 - 3 * 4", "1 2 - 3 4 - -": "1 - 2 - (3 - 4)",
		"1 2 3 4 + + +": "1 + (2 + (3 + 4))", "1 2 3 4 * * *": "1 * (2 * (3 * 4))", "1 2 + 3 * 4 + 5 *": "((1 + 2) * 3 + 4) * 5", "1 2 3 + * ~": "-(1 * (2 + 3))", "1 ~ 2 ~ -": "-1 - -2", "1 ~ ~ 2 ~ ~ - ~ ~": "--(--1 - --2)",
	} {
		printIs(t, row(items), want)
		holdPrint(t, row(items))
	}
}

func TestWhatWasParsedIsPrinted(t *testing.T) {
	for _, c := range parseCases() {
		holdPrint(t, row(c.want))
		// What is printed twice is the same text.
		first, _ := Print(row(c.want))
		e, _, _ := Parse(scanned(t, first), 0)
		printIs(t, e, first)
	}
}

// Each two, and each three items that work on something, in each way in which they may work on each other.
func TestEachNestingIsPrinted(t *testing.T) {
	wraps := []string{"%s ~", "%s 8 +", "8 %s +", "%s 8 -", "8 %s -", "%s 8 *", "8 %s *", "%s a b - *", "a b * %s +"}
	for _, core := range []string{"1", "a", "1 2 +", "1 2 -", "1 2 *", "1 ~"} {
		for _, one := range wraps {
			first := fmt.Sprintf(one, core)
			holdPrint(t, row(first))
			for _, two := range wraps {
				second := fmt.Sprintf(two, first)
				holdPrint(t, row(second))
				for _, three := range wraps {
					third := fmt.Sprintf(three, second)
					holdPrint(t, row(third))
					holdPrint(t, row(fmt.Sprintf("%s %s *", third, third)))
				}
			}
		}
	}
}

func TestNumbersAreDecimal(t *testing.T) {
	for bit := range 33 {
		for beside := int64(-2); beside <= 2; beside++ {
			n := int64(1)<<bit + beside
			if n >= 0 && n < 1<<32 {
				holdPrint(t, items(num(uint32(n))))
				printIs(t, append(items(num(uint32(n)), label("a")), row("~ *")...), fmt.Sprintf("%d * -a", n))
			}
		}
	}
}

// P15.4

// How deep what was printed is, is told by Parse; the text is told all the same.
func TestTextsThatAreTooDeep(t *testing.T) {
	for deep := range 20 {
		minus := strings.Repeat(" ~", deep)
		right := "1" + strings.Repeat(" 1", deep+1) + strings.Repeat(" -", deep+1)
		mixed := "1 2 +" + strings.Repeat(" 3 * 4 +", deep/2) + minus
		for items, deepest := range map[string]int{
			"1" + minus:            deep,
			"1 2 +" + minus:        deep + min(deep, 1),
			right:                  deep,
			"5" + minus + " 6 *":   deep,
			mixed:                  -1,
			right + minus:          2*deep + min(deep, 1),
			right + " 7 *" + minus: 1 + deep + deep + min(deep, 1),
		} {
			e := row(items)
			if len(e) > mostItems {
				continue
			}
			holdPrint(t, e)
			s, _ := Print(e)
			_, _, x := Parse(scanned(t, s), 0)
			if deepest >= 0 && (x == api.ErrDeep) != (deepest > mostDeep) {
				t.Errorf("%q, %d deep, tells the error %d", s, deepest, x)
			}
		}
	}
}

// spreadRow is an expression of so many items at most.
func spreadRow(next func(int) int, size int) []api.Item {
	switch {
	case size < 2 || size < 6 && next(4) == 0:
		if next(2) == 0 {
			return items(num(uint32(next(1<<16)) << next(17)))
		}
		return items(label([]string{"a", "loop", "_", "R100", "ADD"}[next(5)]))
	case size < 3 || next(4) == 0:
		return append(spreadRow(next, size-1), api.Item{Kind: 3})
	}
	first := 1 + next(size-2)
	return append(append(spreadRow(next, first), spreadRow(next, size-1-first)...), api.Item{Kind: 4 + next(3)})
}

func TestSpreadExpressionsArePrinted(t *testing.T) {
	next := spread()
	full, deep := 0, 0
	for range 20000 {
		e := spreadRow(next, 1+next(mostItems))
		if len(e) > 50 {
			full++
		}
		wellIs(t, e, true)
		holdPrint(t, e)
		s, _ := Print(e)
		if _, _, x := Parse(scanned(t, s), 0); x == api.ErrDeep {
			deep++
		}
	}
	if full < 500 || deep < 100 || deep > 19000 {
		t.Errorf("%d expressions were great, and %d too deep", full, deep)
	}
}

// Rows with an item changed, taken away, or put there: they are printed just if they are well.
func TestRowsWithOneItemElsewhere(t *testing.T) {
	next := spread()
	for range 1000 {
		e := spreadRow(next, 1+next(30))
		at := next(len(e))
		for _, x := range row("1 a ~ + - *") {
			of := slices.Clone(e)
			of[at] = x
			for _, of := range [][]api.Item{of, slices.Insert(slices.Clone(e), at, x), slices.Delete(slices.Clone(e), at, at+1), e[:at], e[at:]} {
				if wantWell(of) {
					wellIs(t, of, true)
					holdPrint(t, of)
				} else {
					notWell(t, of)
				}
			}
		}
	}
}

// R1: whatever there is, the calls end

func TestSpreadItemsAndTokens(t *testing.T) {
	next := spread()
	texts := []string{"", "a", "R1", "+", "-", "*", "(", ")", "1", "\xff", "abcdefghijklm"}
	for range 30000 {
		e := make([]api.Item, next(9))
		for n := range e {
			e[n] = api.Item{Kind: next(10) - 1, N: uint32(next(2)), Name: texts[next(3)]}
		}
		if s, x := Print(e); (x == api.OK) != Well(e) || x != api.OK && (x != api.ErrExpr || s != "") {
			t.Errorf("Print(%s) = %q, %d", shown(e), s, x)
		}
		l := make([]api.Token, next(9))
		for n := range l {
			l[n] = api.Token{Kind: next(6), At: next(9) - 4, Text: texts[next(len(texts))], N: uint32(next(3))}
		}
		holdParse(t, l, 0)
		holdParse(t, l, next(12)-2)
	}
}

func TestManyTokens(t *testing.T) {
	for _, size := range []int{1000, 1 << 16, 1 << 18} {
		repeat := func(s string) []api.Token { return slices.Repeat(tokens(s), size) }
		parseFails(t, repeat("("), 0, api.ErrDeep)
		parseFails(t, repeat("-"), 0, api.ErrDeep)
		parseFails(t, repeat("1 +"), 0, api.ErrExpr)
		parseFails(t, repeat("( 1 + "), 0, api.ErrDeep)
		parseFails(t, append(repeat("1 *"), numTk(1)), 0, api.ErrDeep)
		parseFails(t, append(repeat("- a -"), numTk(1)), 0, api.ErrDeep)
		parseIs(t, repeat("1"), size-1, row("1"), size)
		parseIs(t, repeat("a ,"), 0, row("a"), 1)
		parseFails(t, repeat(")"), size/2, api.ErrExpr)
	}
}

// R6 and R7

func TestWhatIsHandedInIsLeft(t *testing.T) {
	for _, c := range parseCases() {
		// The room behind a list is the caller's too.
		l := tokens(c.text)
		room := append(slices.Clone(l), numTk(5), signTk("+"), nameTk("z"))
		before := slices.Clone(room)
		Parse(room[:len(l)], 0)
		if !slices.Equal(room, before) {
			t.Errorf("Parse left %s, want %s", shown(room), shown(before))
		}
		e := row(c.want)
		roomOfItems := append(slices.Clone(e), num(5), label("z"), api.Item{Kind: 4})
		beforeOfItems := slices.Clone(roomOfItems)
		Well(roomOfItems[:len(e)])
		Print(roomOfItems[:len(e)])
		if !slices.Equal(roomOfItems, beforeOfItems) {
			t.Errorf("Well and Print left %s, want %s", shown(roomOfItems), shown(beforeOfItems))
		}
	}
}

func TestAnswersAreApart(t *testing.T) {
	for _, c := range parseCases() {
		l := tokens(c.text)
		first, _, _ := Parse(l, 0)
		second, _, _ := Parse(l, 0)
		text, _ := Print(first)
		first = first[:cap(first)]
		for n := range first {
			first[n] = label("spoilt")
		}
		clear(l)
		if written(second) != c.want {
			t.Errorf("Parse of %q shares what it tells: %s", c.text, shown(second))
		}
		of, _ := treeOf(row(c.want))
		if text != wantText(of) {
			t.Errorf("what Print told of %q became %q", c.want, text)
		}
		textIs(t, c.text, c.want)
	}
}

// The bytes behind texts that were handed in may become others: what was told stays as it was.
func TestTextsAreTheCallersOwn(t *testing.T) {
	b := []byte("word")
	l := []api.Token{nameTk(unsafe.String(&b[0], len(b)))}
	e, _, x := Parse(l, 0)
	clear(b)
	if x != api.OK || written(e) != "word" {
		t.Errorf("what was parsed became %s, %d", shown(e), x)
	}
	b = []byte("loop")
	of := items(label(unsafe.String(&b[0], len(b))))
	s, x := Print(of)
	clear(b)
	if x != api.OK || s != "loop" {
		t.Errorf("what was printed became %q, %d", s, x)
	}
}

func TestCallsDoNotHangOnEachOther(t *testing.T) {
	cases := parseCases()
	var group sync.WaitGroup
	for worker := range 8 {
		group.Go(func() {
			for n := range 20 * len(cases) {
				c := cases[(n+worker)%len(cases)]
				textIs(t, c.text, c.want)
				textFails(t, c.text+" +", api.ErrExpr)
				textFails(t, "( ( ( ( ( ( ( ( ( "+c.text, api.ErrDeep)
				holdPrint(t, row(c.want))
				notWell(t, row(c.want+" +"))
			}
		})
	}
	group.Wait()
}
