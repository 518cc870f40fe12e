package object

import (
	"fmt"
	"math"
	"slices"
	"strings"
	"testing"

	"rivet/api"
)

// shown is an object for a message, cut where it is long.
func shown(o api.Obj) string {
	return fmt.Sprintf("%.400s", fmt.Sprintf("%d %d %#v", o.Words, o.Sites, o.Syms))
}

func mayIs(t *testing.T, name string, o api.Obj, want api.Errno) {
	t.Helper()
	if e := May(o); e != want {
		t.Errorf("%s: May(%s) of %d words = %d, want %d", name, shown(o), len(o.Words), e, want)
	}
}

func sym(name string, at int) api.Sym { return api.Sym{Name: name, At: at} }

// named is an object of three words and of names, each one at place 4.
func named(names ...string) api.Obj {
	o := api.Obj{Words: []uint32{1, 2, 3}}
	for _, n := range names {
		o.Syms = append(o.Syms, sym(n, 4))
	}
	return o
}

// manyNames are count names that rise, at place 0.
func manyNames(count int) []api.Sym {
	var l []api.Sym
	for n := range count {
		l = append(l, sym(fmt.Sprintf("n%05d", n), 0))
	}
	return l
}

func count(to int) []int {
	var l []int
	for n := range to {
		l = append(l, n)
	}
	return l
}

func copied(o api.Obj) api.Obj {
	return api.Obj{Words: slices.Clone(o.Words), Sites: slices.Clone(o.Sites), Syms: slices.Clone(o.Syms)}
}

// P9.1: objects that may be

func TestObjectsThatMayBe(t *testing.T) {
	for _, c := range []struct {
		name string
		o    api.Obj
	}{
		{"an object of nothing", api.Obj{}},
		{"an object of empty lists", api.Obj{Words: []uint32{}, Sites: []int{}, Syms: []api.Sym{}}},
		{"the first example", api.Obj{Words: []uint32{4}, Sites: []int{0}}},
		{"one word", api.Obj{Words: []uint32{7}}},
		{"words alone", api.Obj{Words: []uint32{1, 0, 0xFFFFFFFF, 0x80000000, 65536}}},
		{"words with sites", api.Obj{Words: []uint32{8, 99, 3, 0}, Sites: []int{0, 2}}},
		{"words that are all sites", api.Obj{Words: []uint32{0, 4, 8, 12}, Sites: []int{0, 1, 2, 3}}},
		{"words with names", api.Obj{Words: []uint32{99, 98}, Syms: []api.Sym{sym("a", 8), sym("b", 0)}}},
		{"names alone", api.Obj{Syms: []api.Sym{sym("a", 0), sym("b", 0)}}},
		{"words with sites and names", api.Obj{Words: []uint32{8, 99, 3}, Sites: []int{0, 2}, Syms: []api.Sym{sym("B", 12), sym("a", 0), sym("a1", 4)}}},
		{"names at places that fall", api.Obj{Words: []uint32{1, 2}, Syms: []api.Sym{sym("a", 8), sym("b", 4), sym("c", 0)}}},
		{"names at one place", api.Obj{Words: []uint32{1, 2}, Syms: []api.Sym{sym("a", 4), sym("b", 4)}}},
	} {
		mayIs(t, c.name, c.o, api.OK)
	}
}

func TestHowManyWords(t *testing.T) {
	mayIs(t, "1023 words", api.Obj{Words: make([]uint32, 1023)}, api.OK)
	mayIs(t, "1024 words", api.Obj{Words: make([]uint32, 1024)}, api.OK)
	mayIs(t, "1024 words that are all sites", api.Obj{Words: make([]uint32, 1024), Sites: count(1024)}, api.OK)
	for _, size := range []int{1025, 1026, 2048, 4096, 65535, 65536, 65536 + 1024, 1 << 20} {
		mayIs(t, "too many words", api.Obj{Words: make([]uint32, size)}, api.ErrBig)
	}
	// What is beyond a list's length is not the object's, whatever its capacity.
	mayIs(t, "1024 words of a longer list", api.Obj{Words: make([]uint32, 5000)[:1024]}, api.OK)
}

func TestHowManyNames(t *testing.T) {
	mayIs(t, "63 names", api.Obj{Syms: manyNames(63)}, api.OK)
	mayIs(t, "64 names", api.Obj{Syms: manyNames(64)}, api.OK)
	mayIs(t, "64 names of a longer list", api.Obj{Syms: manyNames(80)[:64]}, api.OK)
	for _, size := range []int{65, 66, 128, 256, 256 + 64, 1024, 65536} {
		mayIs(t, "too many names", api.Obj{Syms: manyNames(size)}, api.ErrBig)
	}
	mayIs(t, "1024 words and 64 names", api.Obj{Words: make([]uint32, 1024), Syms: manyNames(64)}, api.OK)
	mayIs(t, "1025 words and 64 names", api.Obj{Words: make([]uint32, 1025), Syms: manyNames(64)}, api.ErrBig)
	mayIs(t, "1024 words and 65 names", api.Obj{Words: make([]uint32, 1024), Syms: manyNames(65)}, api.ErrBig)
	mayIs(t, "1025 words and 65 names", api.Obj{Words: make([]uint32, 1025), Syms: manyNames(65)}, api.ErrBig)
}

// farNumbers are no places of few words, though some would be, cut to fewer bits.
func farNumbers() []int {
	return []int{
		-4, -8, -256, -65536, -1 << 31, -1 << 32, 4 - 1<<32, math.MinInt, math.MinInt + 4,
		1 << 13, 1 << 16, 1<<16 + 4, 1 << 31, 1 << 32, 1<<32 + 4, 1 << 62, math.MaxInt - 3,
	}
}

// P9.1: sites

func TestSites(t *testing.T) {
	words := []uint32{4, 8, 0, 12}
	for _, c := range []struct {
		name  string
		sites []int
		want  api.Errno
	}{
		{"none", nil, api.OK},
		{"place 0", []int{0}, api.OK},
		{"the last place", []int{3}, api.OK},
		{"the first and the last place", []int{0, 3}, api.OK},
		{"two beside each other", []int{1, 2}, api.OK},
		{"all places", []int{0, 1, 2, 3}, api.OK},
		{"two that fall", []int{2, 0}, api.ErrSite},
		{"two beside each other that fall", []int{1, 0}, api.ErrSite},
		{"the last ones fall", []int{0, 1, 3, 2}, api.ErrSite},
		{"the first ones fall", []int{1, 0, 2, 3}, api.ErrSite},
		{"above the one ahead of that ahead only", []int{0, 3, 1}, api.ErrSite},
		{"two that are alike", []int{1, 1}, api.ErrSite},
		{"two that are alike at place 0", []int{0, 0}, api.ErrSite},
		{"two that are alike at the last place", []int{0, 3, 3}, api.ErrSite},
		{"below 0", []int{-1}, api.ErrSite},
		{"below 0 ahead of others", []int{-1, 0, 1}, api.ErrSite},
		{"below 0 behind others", []int{0, 1, -1}, api.ErrSite},
		{"as many as there are words", []int{4}, api.ErrSite},
		{"as many as there are words, behind others", []int{0, 1, 2, 3, 4}, api.ErrSite},
		{"one more", []int{5}, api.ErrSite},
	} {
		mayIs(t, c.name, api.Obj{Words: words, Sites: c.sites}, c.want)
	}
	for _, site := range farNumbers() {
		mayIs(t, "a number far off", api.Obj{Words: words, Sites: []int{site}}, api.ErrSite)
		mayIs(t, "a number far off behind another one", api.Obj{Words: words, Sites: []int{1, site}}, api.ErrSite)
		mayIs(t, "a number far off of no words", api.Obj{Sites: []int{site}}, api.ErrSite)
	}
	mayIs(t, "a site of no words", api.Obj{Sites: []int{0}}, api.ErrSite)
	mayIs(t, "a site behind the length", api.Obj{Words: words[:2], Sites: []int{2}}, api.ErrSite)
	most := make([]uint32, 1024)
	mayIs(t, "the last place of 1024", api.Obj{Words: most, Sites: []int{1023}}, api.OK)
	mayIs(t, "place 1024 of as many", api.Obj{Words: most, Sites: []int{1024}}, api.ErrSite)
	mayIs(t, "more sites than words", api.Obj{Words: words, Sites: count(70000)}, api.ErrSite)
}

func TestWordsOfSites(t *testing.T) {
	mayIs(t, "the second example", api.Obj{Words: []uint32{8}, Sites: []int{0}}, api.ErrValue)
	for _, size := range []int{1, 2, 3, 63, 64, 255, 256, 1000, 1023, 1024} {
		end := 4 * uint32(size)
		for _, at := range []int{0, size / 2, size - 1} {
			for _, w := range []uint32{0, 1, 2, 3, 4, end - 4, end - 3, end - 1, end} {
				o := api.Obj{Words: make([]uint32, size), Sites: []int{at}}
				o.Words[at] = w
				mayIs(t, fmt.Sprintf("the word %d of the site %d", w, at), o, api.OK)
			}
			for _, w := range []uint32{end + 1, end + 2, end + 4, 4097, 65535, 65536, 65536 + 4, 1 << 31, 0xFFFFFFFC, 0xFFFFFFFF} {
				o := api.Obj{Words: make([]uint32, size), Sites: []int{at}}
				o.Words[at] = w
				mayIs(t, fmt.Sprintf("the word %d of the site %d", w, at), o, api.ErrValue)
				o.Sites = count(size)
				mayIs(t, fmt.Sprintf("the word %d of the site %d, all words being sites", w, at), o, api.ErrValue)
				o.Sites = slices.Delete(o.Sites, at, at+1)
				mayIs(t, fmt.Sprintf("the word %d of %d, which is no site, all others being some", w, at), o, api.OK)
				o.Sites = nil
				mayIs(t, fmt.Sprintf("the word %d of %d, which is no site", w, at), o, api.OK)
			}
		}
	}
}

// P9.1: names

func TestNamesThatMayBe(t *testing.T) {
	for _, names := range [][]string{
		{"a"}, {"Z"}, {"R"}, {"twelve_bytes"}, {"R123"}, {"r1"}, {"a_1"},
		{"a", "b"}, {"A", "a"}, {"Z", "a"}, {"a", "ab"}, {"a", "ab", "abc"}, {"a0", "aA", "a_", "aa"},
		{"aaaaaaaaaaaa", "b"}, {"aaaaaaaaaaa", "aaaaaaaaaaaa"}, {"aaaaaaaaaaaa", "aaaaaaaaaaab"},
		{"a10", "a2"}, {"R", "R1a", "S"}, {"main", "start", "stop"},
	} {
		mayIs(t, "names that rise", named(names...), api.OK)
	}
}

func TestNamesThatAreNone(t *testing.T) {
	for _, none := range []string{
		"", "1", "1a", "_", "_a", "a-", "a b", " a", "a ", "a.", "a\x00", "\x00", "\x80", "\u00e9", "a\u00e9", "a\xff", "@", "[", "`", "{",
		"R0", "R7", "R15", "R16", "R99", "R00", "thirteen_byte", strings.Repeat("a", 24), strings.Repeat("a", 256+4), strings.Repeat("a", 1<<16+1),
	} {
		mayIs(t, "alone", named(none), api.ErrName)
		mayIs(t, "ahead of a name", named(none, "z"), api.ErrName)
		mayIs(t, "behind a name", named("A", none), api.ErrName)
		mayIs(t, "between names", named("A", none, "z"), api.ErrName)
	}
	mayIs(t, "no names at all among 64", api.Obj{Syms: make([]api.Sym, 64)}, api.ErrName)
}

func TestNamesThatDoNotRise(t *testing.T) {
	for _, names := range [][]string{
		{"b", "a"}, {"a", "A"}, {"a", "Z"}, {"ab", "a"}, {"abc", "ab"}, {"aa", "a_"}, {"a_", "aA"}, {"aA", "a0"}, {"b", "aaaaaaaaaaaa"}, {"a2", "a10"},
		{"a", "a"}, {"A", "A"}, {"twelve_bytes", "twelve_bytes"}, {"aaaaaaaaaaab", "aaaaaaaaaaaa"},
		{"a", "b", "b"}, {"a", "a", "b"}, {"a", "c", "b"}, {"b", "a", "c"}, {"a", "b", "a"}, {"b", "c", "a"}, {"c", "b", "a"},
	} {
		mayIs(t, "names that do not rise", named(names...), api.ErrName)
	}
	o := api.Obj{Words: []uint32{1, 2}, Syms: []api.Sym{sym("a", 0), sym("a", 4)}}
	mayIs(t, "two that are alike at other places", o, api.ErrName)
	for n := range 63 {
		o := api.Obj{Syms: manyNames(64)}
		o.Syms[n], o.Syms[n+1] = o.Syms[n+1], o.Syms[n]
		mayIs(t, "two of 64 that fall", o, api.ErrName)
		o.Syms[n] = o.Syms[n+1]
		mayIs(t, "two of 64 that are alike", o, api.ErrName)
	}
}

func TestPlacesOfNames(t *testing.T) {
	for _, size := range []int{0, 1, 2, 3, 64, 1023, 1024} {
		end := 4 * size
		placed := func(at int) []api.Obj {
			words := make([]uint32, size)
			return []api.Obj{
				{Words: words, Syms: []api.Sym{sym("b", at)}},
				{Words: words, Syms: []api.Sym{sym("a", 0), sym("b", at)}},
				{Words: words, Syms: []api.Sym{sym("b", at), sym("c", end)}},
			}
		}
		wrong := append(farNumbers(), -1, -2, -3, end+4, end+8, end+1, end+2, end+3, math.MaxInt, math.MinInt+1)
		for at := 0; at <= end; at++ {
			if at%4 != 0 {
				wrong = append(wrong, at)
				continue
			}
			for _, o := range placed(at) {
				mayIs(t, "a place", o, api.OK)
			}
		}
		for _, at := range wrong {
			for _, o := range placed(at) {
				mayIs(t, "no place", o, api.ErrValue)
			}
		}
	}
}

// P9.1: which of the errors is told

type spoiling struct {
	name  string
	spoil func(*api.Obj)
}

// fault is one thing that P9.1 names, and ways for an object to be wrong in it whatever else is wrong with it.
type fault struct {
	e    api.Errno
	ways []spoiling
}

// faults are in the order of P9.1.
func faults() []fault {
	return []fault{
		{api.ErrBig, []spoiling{
			{"too many words", func(o *api.Obj) { o.Words = append(o.Words, make([]uint32, 1022)...) }},
			{"too many names", func(o *api.Obj) { o.Syms = append(o.Syms, manyNames(62)...) }},
		}},
		{api.ErrSite, []spoiling{
			{"sites that fall", func(o *api.Obj) { o.Sites = []int{2, 0} }},
			{"sites that are alike", func(o *api.Obj) { o.Sites = []int{0, 2, 2} }},
			{"a site below 0", func(o *api.Obj) { o.Sites = []int{-1, 0, 2} }},
			{"a site that is as many as there are words", func(o *api.Obj) { o.Sites = []int{0, 2, len(o.Words)} }},
		}},
		{api.ErrValue, []spoiling{
			{"the first site's word too great", func(o *api.Obj) { o.Words[0] = 4*uint32(len(o.Words)) + 1 }},
			{"the last site's word beyond 16 bits", func(o *api.Obj) { o.Words[2] = 0xFFFFFFFF }},
		}},
		{api.ErrName, []spoiling{
			{"a first name that is none", func(o *api.Obj) { o.Syms[0].Name = "" }},
			{"a last name that is none", func(o *api.Obj) { o.Syms[2].Name = "n-" }},
			{"names that fall", func(o *api.Obj) { o.Syms[2].Name = "A" }},
			{"names that are alike", func(o *api.Obj) { o.Syms[1].Name = "B" }},
		}},
		{api.ErrValue, []spoiling{
			{"a place below 0", func(o *api.Obj) { o.Syms[0].At = -4 }},
			{"a place that is no multiple of 4", func(o *api.Obj) { o.Syms[2].At = 2 }},
			{"a place beyond", func(o *api.Obj) { o.Syms[0].At = 4*len(o.Words) + 4 }},
		}},
	}
}

func good() api.Obj {
	return api.Obj{Words: []uint32{8, 99, 3}, Sites: []int{0, 2}, Syms: []api.Sym{sym("B", 12), sym("a", 0), sym("a1", 4)}}
}

func TestEachFaultAlone(t *testing.T) {
	mayIs(t, "none", good(), api.OK)
	for _, f := range faults() {
		for _, w := range f.ways {
			o := good()
			w.spoil(&o)
			mayIs(t, w.name, o, f.e)
		}
	}
}

func TestTheEarlierOfTwoFaults(t *testing.T) {
	all := faults()
	for n, first := range all {
		for _, second := range all[n+1:] {
			for _, one := range first.ways {
				for _, two := range second.ways {
					o := good()
					one.spoil(&o)
					two.spoil(&o)
					mayIs(t, one.name+", and "+two.name, o, first.e)
				}
			}
		}
	}
}

func TestTheFirstOfAnyFaults(t *testing.T) {
	var spoil func(rest []fault, o api.Obj, name string, want api.Errno)
	spoil = func(rest []fault, o api.Obj, name string, want api.Errno) {
		if len(rest) == 0 {
			mayIs(t, name, o, want)
			return
		}
		spoil(rest[1:], o, name, want)
		for _, w := range rest[0].ways {
			worse, e := copied(o), want
			w.spoil(&worse)
			if e == api.OK {
				e = rest[0].e
			}
			spoil(rest[1:], worse, name+"; "+w.name, e)
		}
	}
	spoil(faults(), good(), "all of", api.OK)
}

// P9.1 by another reckoning, over all small objects

// lists are all lists of at most size of these choices.
func lists[T any](size int, choices []T) [][]T {
	all := [][]T{nil}
	for begin := 0; size > 0; size-- {
		end := len(all)
		for _, l := range all[begin:end] {
			for _, c := range choices {
				all = append(all, append(slices.Clone(l), c))
			}
		}
		begin = end
	}
	return all
}

// rises tells whether each one of l is above all that are ahead of it.
func rises[T int | string](l []T) bool {
	for n := range l {
		for _, ahead := range l[:n] {
			if ahead >= l[n] {
				return false
			}
		}
	}
	return true
}

// wantMay is P9.1 of an object that is not too big; a name is what is given as one.
func wantMay(o api.Obj, isName map[string]bool) api.Errno {
	places, values := map[int]bool{0: true}, map[uint32]bool{0: true}
	for n := range o.Words {
		places[4*n+4] = true
		for less := range uint32(4) {
			values[uint32(4*n)+4-less] = true
		}
	}
	siteE, valueE, nameE, placeE := !rises(o.Sites), false, false, false
	for _, s := range o.Sites {
		if s < 0 || s >= len(o.Words) {
			siteE = true
		} else if !values[o.Words[s]] {
			valueE = true
		}
	}
	var names []string
	for _, s := range o.Syms {
		names = append(names, s.Name)
		nameE = nameE || !isName[s.Name]
		placeE = placeE || !places[s.At]
	}
	switch {
	case siteE:
		return api.ErrSite
	case valueE:
		return api.ErrValue
	case nameE || !rises(names):
		return api.ErrName
	case placeE:
		return api.ErrValue
	}
	return api.OK
}

func TestAllSmallObjects(t *testing.T) {
	isName := map[string]bool{"a": true, "ab": true, "B": true}
	var syms []api.Sym
	for _, name := range []string{"a", "ab", "B", "R1"} {
		for _, at := range []int{-4, 0, 2, 4, 8, 12} {
			syms = append(syms, sym(name, at))
		}
	}
	seen := map[api.Errno]int{}
	for _, words := range lists(2, []uint32{0, 4, 5, 8, 9, 65536}) {
		for _, sites := range lists(2, []int{-1, 0, 1, 2}) {
			for _, s := range lists(2, syms) {
				o := api.Obj{Words: words, Sites: sites, Syms: s}
				e := May(o)
				if want := wantMay(o, isName); e != want {
					t.Fatalf("May(%s) = %d, want %d", shown(o), e, want)
				}
				seen[e]++
			}
		}
	}
	for _, e := range []api.Errno{api.OK, api.ErrSite, api.ErrValue, api.ErrName} {
		if seen[e] < 1000 {
			t.Errorf("too few of one kind: %v", seen)
		}
	}
}

// P9.2

// others are objects each of which is unlike good, and unlike each other one.
func others() []spoiling {
	return []spoiling{
		{"another first word", func(o *api.Obj) { o.Words[0] = 12 }},
		{"another word in the middle", func(o *api.Obj) { o.Words[1] = 98 }},
		{"another last word", func(o *api.Obj) { o.Words[2] = 4 }},
		{"a word that is unlike in its highest bit", func(o *api.Obj) { o.Words[1] |= 1 << 31 }},
		{"two words in each other's place", func(o *api.Obj) { o.Words[0], o.Words[2] = o.Words[2], o.Words[0] }},
		{"one word more", func(o *api.Obj) { o.Words = append(o.Words, 0) }},
		{"one word more ahead", func(o *api.Obj) { o.Words = append([]uint32{0}, o.Words...) }},
		{"one word fewer", func(o *api.Obj) { o.Words = o.Words[:2] }},
		{"one word fewer ahead", func(o *api.Obj) { o.Words = o.Words[1:] }},
		{"no word", func(o *api.Obj) { o.Words = nil }},
		{"another first site", func(o *api.Obj) { o.Sites[0] = 1 }},
		{"another last site", func(o *api.Obj) { o.Sites[1] = 1 }},
		{"a site that is unlike above 32 bits", func(o *api.Obj) { o.Sites[0] = 1 << 32 }},
		{"two sites in each other's place", func(o *api.Obj) { o.Sites = []int{2, 0} }},
		{"one site more", func(o *api.Obj) { o.Sites = []int{0, 1, 2} }},
		{"one site more behind", func(o *api.Obj) { o.Sites = []int{0, 2, 3} }},
		{"one site twice", func(o *api.Obj) { o.Sites = []int{0, 2, 2} }},
		{"one site fewer", func(o *api.Obj) { o.Sites = o.Sites[:1] }},
		{"one site fewer ahead", func(o *api.Obj) { o.Sites = o.Sites[1:] }},
		{"no site", func(o *api.Obj) { o.Sites = nil }},
		{"another first name", func(o *api.Obj) { o.Syms[0].Name = "A" }},
		{"another name in the middle", func(o *api.Obj) { o.Syms[1].Name = "a0" }},
		{"another last name", func(o *api.Obj) { o.Syms[2].Name = "a2" }},
		{"a name that goes on", func(o *api.Obj) { o.Syms[2].Name = "a12" }},
		{"a name that ends earlier", func(o *api.Obj) { o.Syms[2].Name = "a" }},
		{"a name of a capital", func(o *api.Obj) { o.Syms[1].Name = "A" }},
		{"a name of a small letter", func(o *api.Obj) { o.Syms[0].Name = "b" }},
		{"another place of the first name", func(o *api.Obj) { o.Syms[0].At = 8 }},
		{"another place of the last name", func(o *api.Obj) { o.Syms[2].At = 8 }},
		{"a place that is unlike above 32 bits", func(o *api.Obj) { o.Syms[1].At = 1 << 32 }},
		{"a place that is the opposite", func(o *api.Obj) { o.Syms[2].At = -4 }},
		{"two places in each other's place", func(o *api.Obj) { o.Syms[0].At, o.Syms[1].At = o.Syms[1].At, o.Syms[0].At }},
		{"two names in each other's place", func(o *api.Obj) { o.Syms[0], o.Syms[1] = o.Syms[1], o.Syms[0] }},
		{"one name more", func(o *api.Obj) { o.Syms = append(o.Syms, sym("b", 0)) }},
		{"one name more ahead", func(o *api.Obj) { o.Syms = append([]api.Sym{sym("A", 0)}, o.Syms...) }},
		{"one name more that is nothing", func(o *api.Obj) { o.Syms = append(o.Syms, api.Sym{}) }},
		{"one name fewer", func(o *api.Obj) { o.Syms = o.Syms[:2] }},
		{"one name fewer ahead", func(o *api.Obj) { o.Syms = o.Syms[1:] }},
		{"no name", func(o *api.Obj) { o.Syms = nil }},
		{"nothing", func(o *api.Obj) { *o = api.Obj{} }},
	}
}

func sameIs(t *testing.T, name string, a, b api.Obj, want bool) {
	t.Helper()
	if Same(a, b) != want || Same(b, a) != want {
		t.Errorf("%s: Same(%s, %s) = %v, and the other way %v, want %v", name, shown(a), shown(b), Same(a, b), Same(b, a), want)
	}
}

func TestUnlikeObjects(t *testing.T) {
	sameIs(t, "two that are alike", good(), good(), true)
	for n, one := range others() {
		a := good()
		one.spoil(&a)
		sameIs(t, one.name, good(), a, false)
		sameIs(t, one.name+", with itself", a, a, true)
		sameIs(t, one.name+", with one that is alike", a, copied(a), true)
		for _, two := range others()[n+1:] {
			b := good()
			two.spoil(&b)
			sameIs(t, one.name+", and "+two.name, a, b, false)
		}
	}
}

func TestSameOfNothing(t *testing.T) {
	var nothings []api.Obj
	for _, words := range [][]uint32{nil, {}, make([]uint32, 3)[:0], good().Words[:0]} {
		for _, sites := range [][]int{nil, {}, good().Sites[:0]} {
			for _, syms := range [][]api.Sym{nil, {}, good().Syms[:0]} {
				nothings = append(nothings, api.Obj{Words: words, Sites: sites, Syms: syms})
			}
		}
	}
	for _, a := range nothings {
		for _, b := range nothings {
			sameIs(t, "nothing", a, b, true)
		}
		sameIs(t, "nothing, and a word of 0", a, api.Obj{Words: []uint32{0}}, false)
		sameIs(t, "nothing, and a site of 0", a, api.Obj{Sites: []int{0}}, false)
		sameIs(t, "nothing, and a name that is nothing", a, api.Obj{Syms: []api.Sym{{}}}, false)
	}
}

func TestSameOfUnlikeSlices(t *testing.T) {
	words := []uint32{7, 8, 99, 3, 8, 99, 3, 6}
	sites := []int{5, 0, 2, 0, 2, 9}
	syms := append(append([]api.Sym{sym("z", 1)}, good().Syms...), append(good().Syms, sym("y", 2))...)
	inside := api.Obj{Words: words[1:4], Sites: sites[1:3], Syms: syms[1:4]}
	later := api.Obj{Words: words[4:7], Sites: sites[3:5], Syms: syms[4:7]}
	sameIs(t, "a part of longer lists", inside, good(), true)
	sameIs(t, "two parts of the same lists", inside, later, true)
	sameIs(t, "parts with no room behind them", api.Obj{Words: words[1:4:4], Sites: sites[1:3:3], Syms: syms[1:4:4]}, later, true)
	sameIs(t, "a part that begins at the same word and goes on", inside, api.Obj{Words: words[1:5], Sites: sites[1:3], Syms: syms[1:4]}, false)
	built := good()
	for n := range built.Syms {
		built.Syms[n].Name = string([]byte(built.Syms[n].Name))
	}
	sameIs(t, "names made anew", built, good(), true)
}

func TestSameOfSmallObjects(t *testing.T) {
	var all []api.Obj
	for _, words := range lists(2, []uint32{0, 1}) {
		for _, sites := range lists(2, []int{0, 1}) {
			for _, syms := range lists(1, []api.Sym{sym("a", 0), sym("a", 4), sym("b", 0), sym("", 0)}) {
				all = append(all, api.Obj{Words: words, Sites: sites, Syms: syms})
			}
		}
	}
	for n, a := range all {
		for m, b := range all {
			if got := Same(a, copied(b)); got != (n == m) {
				t.Fatalf("Same(%s, %s) = %v", shown(a), shown(b), got)
			}
		}
	}
}

// What may not be is the same as what is like it, too: P9.2 asks nothing of the objects.
func TestSameOfObjectsThatMayNotBe(t *testing.T) {
	bad := api.Obj{Words: make([]uint32, 3000), Sites: []int{-1, 5, 5, math.MinInt, 9000}, Syms: append(manyNames(100), sym("", -1), sym("R1", math.MaxInt))}
	sameIs(t, "two that are alike", bad, copied(bad), true)
	for at := range bad.Words {
		o := copied(bad)
		o.Words[at] = 1
		sameIs(t, "another word", bad, o, false)
	}
	for at := range bad.Sites {
		o := copied(bad)
		o.Sites[at]++
		sameIs(t, "another site", bad, o, false)
	}
	for at := range bad.Syms {
		o, p := copied(bad), copied(bad)
		o.Syms[at].Name += "x"
		p.Syms[at].At--
		sameIs(t, "another name", bad, o, false)
		sameIs(t, "another place of a name", bad, p, false)
	}
}

// R6 and R7

func TestWhatIsHandedInIsLeft(t *testing.T) {
	whole := func() api.Obj {
		o := good()
		return api.Obj{Words: append(o.Words, 5, 6), Sites: append(o.Sites, 1, 0), Syms: append(o.Syms, sym("q", 3), sym("", 1))}
	}
	for _, w := range append(others(), spoiling{"as it is", func(*api.Obj) {}}) {
		a, b, want := whole(), whole(), whole()
		w.spoil(&a)
		w.spoil(&want)
		before := fmt.Sprintf("%#v", want)
		head := api.Obj{Words: b.Words[:3], Sites: b.Sites[:2], Syms: b.Syms[:3]}
		May(a)
		May(head)
		Same(a, b)
		Same(head, a)
		if after := fmt.Sprintf("%#v", a); after != before {
			t.Errorf("%s: left %s, want %s", w.name, after, before)
		}
		if fmt.Sprintf("%#v", b) != fmt.Sprintf("%#v", whole()) {
			t.Errorf("%s: left %v behind the lengths", w.name, b)
		}
	}
}

func TestCallsDoNotHangOnEachOther(t *testing.T) {
	mayIs(t, "names up to z", named("a", "z"), api.OK)
	mayIs(t, "the same names once more", named("a", "z"), api.OK)
	mayIs(t, "lower names", named("A", "B"), api.OK)
	for _, f := range faults() {
		for _, w := range f.ways {
			o := good()
			w.spoil(&o)
			mayIs(t, w.name, o, f.e)
			mayIs(t, w.name+", once more", o, f.e)
			mayIs(t, "none, behind "+w.name, good(), api.OK)
		}
	}
}
