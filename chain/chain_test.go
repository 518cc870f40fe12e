package chain

import (
	"math"
	"slices"
	"testing"

	"rivet/api"
)

// far are numbers that are no place and no head of the words that are tried here, though some would be, cut to fewer bits.
var far = []int{
	-1, -2, -65535, -65536, -65537, -1 << 31, -1 << 32, 1 - 1<<32, math.MinInt, math.MinInt + 1, math.MinInt + 2,
	1 << 20, 1<<20 + 1, 1 << 31, 1 << 32, 1<<32 + 1, 1 << 33, 1 << 62, math.MaxInt - 1, math.MaxInt,
}

// spread tells numbers of a fixed rule, the same ones in each run.
func spread() func() uint32 {
	x := uint32(2463534242)
	return func() uint32 {
		x ^= x << 13
		x ^= x >> 17
		x ^= x << 5
		return x
	}
}

// wantPack is P8.1 and P8.2 place by place: of each word the places below it are asked for the next lower site.
func wantPack(words []uint32, sites []int) ([]uint32, int, api.Errno) {
	for n, s := range sites {
		if n > 0 && sites[n-1] >= s {
			return nil, 0, api.ErrSite
		}
		if s < 0 || s > 65534 || s >= len(words) {
			return nil, 0, api.ErrSite
		}
	}
	isSite := make([]bool, len(words))
	for _, s := range sites {
		isSite[s] = true
	}
	linkBelow := func(place int) int {
		for at := place - 1; at >= 0; at-- {
			if isSite[at] {
				return at + 1
			}
		}
		return 0
	}
	packed := make([]uint32, len(words))
	for at, w := range words {
		packed[at] = w
		if !isSite[at] {
			continue
		}
		if w >= 65536 {
			return nil, 0, api.ErrValue
		}
		packed[at] = 65536*w + uint32(linkBelow(at))
	}
	return packed, linkBelow(len(words)), api.OK
}

// wantUnpack is P8.3 link by link, the rest of a chain being that of its next site.
func wantUnpack(words []uint32, head int) ([]uint32, []int, api.Errno) {
	if head < 0 || head > len(words) {
		return nil, nil, api.ErrChain
	}
	if head == 0 {
		return slices.Clone(words), nil, api.OK
	}
	next := int(words[head-1] % 65536)
	if next != 0 && next-1 >= head-1 {
		return nil, nil, api.ErrChain
	}
	values, sites, e := wantUnpack(words, next)
	if e != api.OK {
		return nil, nil, e
	}
	values[head-1] = words[head-1] / 65536
	return values, append(sites, head-1), api.OK
}

func packsTo(t *testing.T, name string, words []uint32, sites []int, want []uint32, wantHead int) {
	t.Helper()
	if got, head, e := Pack(words, sites); e != api.OK || head != wantHead || !slices.Equal(got, want) {
		t.Errorf("%s: Pack(%X, %d) = %X, %d, %d, want %X, %d", name, words, sites, got, head, e, want, wantHead)
	}
}

func unpacksTo(t *testing.T, name string, words []uint32, head int, want []uint32, wantSites []int) {
	t.Helper()
	if got, sites, e := Unpack(words, head); e != api.OK || !slices.Equal(got, want) || !slices.Equal(sites, wantSites) {
		t.Errorf("%s: Unpack(%X, %d) = %X, %d, %d, want %X, %d", name, words, head, got, sites, e, want, wantSites)
	}
}

// packFails asks for the error, and that nothing else is told beside it (R2).
func packFails(t *testing.T, name string, words []uint32, sites []int, want api.Errno) {
	t.Helper()
	if got, head, e := Pack(words, sites); e != want || got != nil || head != 0 {
		t.Errorf("%s: Pack of %d words, %d = %X, %d, %d, want the error %d", name, len(words), sites, got, head, e, want)
	}
}

func unpackFails(t *testing.T, name string, words []uint32, head int) {
	t.Helper()
	if got, sites, e := Unpack(words, head); e != api.ErrChain || got != nil || sites != nil {
		t.Errorf("%s: Unpack of %d words, %d = %X, %d, %d, want the error %d", name, len(words), head, got, sites, e, api.ErrChain)
	}
}

type chainCase struct {
	name   string
	values []uint32
	sites  []int
	packed []uint32
	head   int
}

// chainCases are chains in their two forms, written out.
func chainCases() []chainCase {
	return []chainCase{
		{"no words at all", nil, nil, nil, 0},
		{"an empty list of words", []uint32{}, []int{}, []uint32{}, 0},
		{"no site", []uint32{5, 6}, nil, []uint32{5, 6}, 0},
		{"no site, and words that no site may have", []uint32{65536, 0xFFFFFFFF}, []int{}, []uint32{65536, 0xFFFFFFFF}, 0},
		{"one site, which is the only word", []uint32{1}, []int{0}, []uint32{0x00010000}, 1},
		{"one site at place 0", []uint32{0xABCD, 2, 3}, []int{0}, []uint32{0xABCD0000, 2, 3}, 1},
		{"one site in the middle", []uint32{1, 0xABCD, 3}, []int{1}, []uint32{1, 0xABCD0000, 3}, 2},
		{"one site at the last place", []uint32{1, 2, 0xABCD}, []int{2}, []uint32{1, 2, 0xABCD0000}, 3},
		{"the example", []uint32{8, 7, 4}, []int{0, 2}, []uint32{0x00080000, 7, 0x00040001}, 3},
		{"two beside each other", []uint32{3, 4, 5, 6}, []int{1, 2}, []uint32{3, 0x00040000, 0x00050002, 6}, 3},
		{"two beside each other from place 0 on", []uint32{3, 4, 5}, []int{0, 1}, []uint32{0x00030000, 0x00040001, 5}, 2},
		{"each word a site", []uint32{9, 8, 7, 6}, []int{0, 1, 2, 3}, []uint32{0x00090000, 0x00080001, 0x00070002, 0x00060003}, 4},
		{"a value of 0, alone", []uint32{0}, []int{0}, []uint32{0}, 1},
		{"values of 0", []uint32{0, 0, 0}, []int{0, 1, 2}, []uint32{0, 1, 2}, 3},
		{"the greatest value", []uint32{65535}, []int{0}, []uint32{0xFFFF0000}, 1},
		{"the greatest values", []uint32{65535, 65535}, []int{0, 1}, []uint32{0xFFFF0000, 0xFFFF0001}, 2},
		{"the highest bit of a value", []uint32{0x8000, 0x7FFF}, []int{0, 1}, []uint32{0x80000000, 0x7FFF0001}, 2},
		{"words that are like links among them", []uint32{0x00010001, 0x1234, 0xFFFFFFFF, 0x4321, 0x00020002}, []int{1, 3}, []uint32{0x00010001, 0x12340000, 0xFFFFFFFF, 0x43210002, 0x00020002}, 4},
		{"three that are unlike far from each other", []uint32{1, 2, 3, 4, 5, 6, 7}, []int{0, 1, 6}, []uint32{0x00010000, 0x00020001, 3, 4, 5, 6, 0x00070002}, 7},
	}
}

// P8.1 to P8.3

func TestChainsInBothForms(t *testing.T) {
	for _, c := range chainCases() {
		packsTo(t, c.name, c.values, c.sites, c.packed, c.head)
		unpacksTo(t, c.name, c.packed, c.head, c.values, c.sites)
	}
}

// bothWays holds a chain that is too long to be written out against the other reckonings, both ways.
func bothWays(t *testing.T, name string, words []uint32, sites []int) {
	t.Helper()
	want, wantHead, e := wantPack(words, sites)
	if e != api.OK {
		t.Fatalf("%s: no chain: %d", name, e)
	}
	got, head, e := Pack(words, sites)
	if e != api.OK || head != wantHead || !slices.Equal(got, want) {
		t.Errorf("%s: Pack tells the head %d, %d, want %d, or other words", name, head, e, wantHead)
	}
	back, backSites, e := Unpack(want, wantHead)
	if e != api.OK || !slices.Equal(back, words) || !slices.Equal(backSites, sites) {
		t.Errorf("%s: Unpack tells %d sites, %d, want %d, or other words", name, len(backSites), e, len(sites))
	}
}

func count(from, to int) []int {
	var l []int
	for n := from; n < to; n++ {
		l = append(l, n)
	}
	return l
}

func TestLongChains(t *testing.T) {
	next := spread()
	for _, size := range []int{255, 256, 257, 1024, 4096, 65534, 65535, 65536, 70000} {
		words := make([]uint32, size)
		for at := range words {
			words[at] = next() % 65536
		}
		last := min(size, 65535) - 1
		bothWays(t, "each word", words, count(0, last+1))
		bothWays(t, "the last place alone", words, []int{last})
		bothWays(t, "the first and the last place", words, []int{0, last})
		bothWays(t, "the two last places", words, []int{last - 1, last})
		for at := range words {
			if at%3 != 0 {
				words[at] = next()
			}
		}
		var thirds []int
		for at := 0; at <= last; at += 3 {
			thirds = append(thirds, at)
		}
		bothWays(t, "each third word", words, thirds)
	}
}

func TestSitesAtTheHighestPlaces(t *testing.T) {
	words := make([]uint32, 65537)
	words[7], words[65533], words[65534] = 0x1111, 0x2222, 0x3333
	packed, head, e := Pack(words, []int{7, 65533, 65534})
	if e != api.OK || head != 65535 || packed[7] != 0x11110000 || packed[65533] != 0x22220008 || packed[65534] != 0x3333FFFE {
		t.Fatalf("Pack = %X, %X, %X, %d, %d", packed[7], packed[65533], packed[65534], head, e)
	}
	back, sites, e := Unpack(packed, head)
	if e != api.OK || !slices.Equal(back, words) || !slices.Equal(sites, []int{7, 65533, 65534}) {
		t.Errorf("Unpack tells %d, %d", sites, e)
	}
	for _, size := range []int{65535, 65536, 65537, 70000} {
		long := make([]uint32, size)
		for _, site := range []int{65535, 65536, 65537, 69999} {
			packFails(t, "a site above 65534", long, []int{site}, api.ErrSite)
			packFails(t, "a site above 65534 behind others", long, []int{0, 65534, site}, api.ErrSite)
		}
	}
}

// P8.2: wrong sites and values

func TestPackOfWrongSites(t *testing.T) {
	words := []uint32{8, 7, 4, 9}
	for _, c := range []struct {
		name  string
		sites []int
	}{
		{"two that fall", []int{2, 0}},
		{"two beside each other that fall", []int{1, 0}},
		{"the last ones fall", []int{0, 1, 3, 2}},
		{"the middle ones fall", []int{0, 2, 1, 3}},
		{"the first ones fall", []int{1, 0, 2, 3}},
		{"above the one ahead of that ahead only", []int{0, 3, 1}},
		{"two that are alike", []int{1, 1}},
		{"two that are alike at place 0", []int{0, 0}},
		{"two that are alike at the last place", []int{3, 3}},
		{"the last ones alike", []int{0, 2, 2}},
		{"the first ones alike", []int{0, 0, 3}},
		{"below 0", []int{-1}},
		{"below 0, others above", []int{-1, 0, 1}},
		{"below 0, behind others", []int{0, 1, -1}},
		{"two below 0 that rise", []int{-2, -1}},
		{"as many as there are words", []int{4}},
		{"as many as there are words, behind others", []int{0, 1, 2, 3, 4}},
		{"one more", []int{5}},
		{"far beyond, behind others", []int{0, 3, 400}},
		{"as many as there are words, ahead of one that is none", []int{4, 0}},
	} {
		packFails(t, c.name, words, c.sites, api.ErrSite)
	}
	for _, site := range far {
		packFails(t, "a number far off", words, []int{site}, api.ErrSite)
		packFails(t, "a number far off behind another one", words, []int{1, site}, api.ErrSite)
		packFails(t, "a number far off of no words", nil, []int{site}, api.ErrSite)
	}
	packFails(t, "a site of no words", nil, []int{0}, api.ErrSite)
	packFails(t, "a site of an empty list", []uint32{}, []int{0}, api.ErrSite)
	// What is beyond a list's length is not the list's, whatever its capacity.
	packFails(t, "a site behind the length", words[:2], []int{2}, api.ErrSite)
}

func TestPackOfWrongValues(t *testing.T) {
	for _, c := range []struct {
		name  string
		words []uint32
		sites []int
	}{
		{"one above", []uint32{65536}, []int{0}},
		{"two above", []uint32{65537}, []int{0}},
		{"a multiple of 65536", []uint32{0x00020000}, []int{0}},
		{"the highest bit", []uint32{0x80000000}, []int{0}},
		{"the greatest word", []uint32{0xFFFFFFFF}, []int{0}},
		{"the first one of three", []uint32{65536, 1, 2}, []int{0, 1, 2}},
		{"the middle one of three", []uint32{0, 65536, 2}, []int{0, 1, 2}},
		{"the last one of three", []uint32{0, 1, 65536}, []int{0, 1, 2}},
		{"all of them", []uint32{65536, 65536, 65536}, []int{0, 1, 2}},
		{"a site among others that may be so", []uint32{0xFFFFFFFF, 0xFFFFFFFF, 1}, []int{1, 2}},
	} {
		packFails(t, c.name, c.words, c.sites, api.ErrValue)
	}
}

func TestPackTellsTheSiteAheadOfTheValue(t *testing.T) {
	words := []uint32{65536, 1, 0xFFFFFFFF}
	for _, sites := range [][]int{{0, 0}, {0, 1, 1}, {2, 0}, {2, 1}, {0, -1}, {-1, 0}, {0, 3}, {0, 1, 2, 3}, {0, 2, 65535}, {0, 2, math.MaxInt}, {0, math.MinInt}} {
		packFails(t, "both errors", words, sites, api.ErrSite)
	}
	long := make([]uint32, 65536)
	long[0] = 65536
	packFails(t, "a value at the first site, and a site above 65534", long, []int{0, 65535}, api.ErrSite)
	packFails(t, "the same without that site", long, []int{0, 65534}, api.ErrValue)
}

// P8.3: heads and links

func TestUnpackOfNamedHeads(t *testing.T) {
	words := []uint32{0x00050000, 0x00060001, 0x00070000, 0xFFFFFFFF}
	unpacksTo(t, "a head of 0", words, 0, words, nil)
	unpacksTo(t, "a head of 1", words, 1, []uint32{5, 0x00060001, 0x00070000, 0xFFFFFFFF}, []int{0})
	unpacksTo(t, "a head of 2", words, 2, []uint32{5, 6, 0x00070000, 0xFFFFFFFF}, []int{0, 1})
	unpacksTo(t, "a head of 3", words, 3, []uint32{0x00050000, 0x00060001, 7, 0xFFFFFFFF}, []int{2})
	unpacksTo(t, "a head of as many as there are words", words[:3], 3, []uint32{0x00050000, 0x00060001, 7}, []int{2})
	unpackFails(t, "a link that is all ones", words, 4)
	unpackFails(t, "a head above how many words there are", words, 5)
	unpackFails(t, "a head below 0", words, -1)
	unpackFails(t, "a head behind the length", words[:2], 3)
	unpackFails(t, "a head of 1 of no words", nil, 1)
	unpackFails(t, "a head of 1 of an empty list", []uint32{}, 1)
	unpackFails(t, "a head below 0 of no words", nil, -1)
	unpacksTo(t, "a head of 0 of no words", nil, 0, nil, nil)
	for _, head := range far {
		unpackFails(t, "a number far off", words, head)
		unpackFails(t, "a number far off of no words", nil, head)
	}
}

func TestUnpackOfWrongLinks(t *testing.T) {
	for _, c := range []struct {
		name  string
		words []uint32
		head  int
	}{
		{"the same site, alone", []uint32{1}, 1},
		{"the same site", []uint32{0, 2, 0}, 2},
		{"the same site, at the last place", []uint32{0, 0, 3}, 3},
		{"the one just higher", []uint32{2, 0}, 1},
		{"one higher", []uint32{3, 0, 0}, 1},
		{"as many as there are words", []uint32{0, 3, 0}, 2},
		{"just beyond the words", []uint32{0, 4, 0}, 2},
		{"just beyond the only word", []uint32{2}, 1},
		{"far beyond the words", []uint32{0, 65535, 0}, 2},
		{"far beyond the words, with a value", []uint32{0, 0xFFFFFFFF, 0}, 2},
		{"two that lead to each other, from above", []uint32{2, 1}, 2},
		{"two that lead to each other, from below", []uint32{2, 1}, 1},
		{"three in a ring", []uint32{3, 1, 2}, 3},
		{"wrong at the last link, the same site", []uint32{1, 1, 2, 3}, 4},
		{"wrong at the last link, higher", []uint32{2, 1, 2, 3}, 4},
		{"wrong at the last link, the head", []uint32{4, 1, 2, 3}, 4},
		{"wrong at the last link, beyond the words", []uint32{5, 1, 2, 3}, 4},
		{"wrong in the middle", []uint32{0, 3, 2, 3}, 4},
		{"wrong at a last link above place 0", []uint32{0, 2, 0, 2}, 4},
	} {
		unpackFails(t, c.name, c.words, c.head)
	}
	long := make([]uint32, 65535)
	for at := range long {
		long[at] = uint32(at)
	}
	if _, sites, e := Unpack(long, len(long)); e != api.OK || len(sites) != len(long) {
		t.Errorf("a chain of all places: %d sites, %d", len(sites), e)
	}
	for _, link := range []uint32{1, 2, 3, 65534, 65535} {
		long[0] = link
		unpackFails(t, "wrong at the last link of all places", long, len(long))
	}
}

func TestUnpackOfNamedLinks(t *testing.T) {
	unpacksTo(t, "each next site just one lower", []uint32{0, 1, 2, 3}, 4, []uint32{0, 0, 0, 0}, []int{0, 1, 2, 3})
	unpacksTo(t, "just one lower, and an end above place 0", []uint32{9, 0x00010000, 0x00020002}, 3, []uint32{9, 1, 2}, []int{1, 2})
	unpacksTo(t, "the last one at place 0", []uint32{0xFFFF0000, 5, 6, 0x00080001}, 4, []uint32{65535, 5, 6, 8}, []int{0, 3})
	unpacksTo(t, "wrong links that no chain comes to", []uint32{0x00070000, 2, 0xFFFFFFFF, 0x00080001}, 4, []uint32{7, 2, 0xFFFFFFFF, 8}, []int{0, 3})
}

// P8.3 names no bound of a head but how many words there are, although Pack would take no such site again.
func TestUnpackOfHeadsBeyondALink(t *testing.T) {
	words := make([]uint32, 70000)
	words[65535], words[69999], words[65534] = 0x0003FFFF, 0x00020000, 0x00040000
	for _, c := range []struct {
		head  int
		sites []int
	}{{65536, []int{65534, 65535}}, {70000, []int{69999}}} {
		values, sites, e := Unpack(words, c.head)
		if e != api.OK || !slices.Equal(sites, c.sites) || values[sites[len(sites)-1]] != words[c.head-1]>>16 {
			t.Errorf("Unpack of the head %d: %d, %d", c.head, sites, e)
		}
	}
	unpackFails(t, "a head above all these words", words, 70001)
}

// P8.4

// eachList calls do with each list of size words that are made of choices.
func eachList(size int, choices []uint32, do func([]uint32)) {
	list := make([]uint32, size)
	var fill func(at int)
	fill = func(at int) {
		if at == size {
			do(list)
			return
		}
		for _, c := range choices {
			list[at] = c
			fill(at + 1)
		}
	}
	fill(0)
}

// subset tells which of size places are the bits of number.
func subset(number, size int) []int {
	var l []int
	for at := range size {
		if number>>at&1 == 1 {
			l = append(l, at)
		}
	}
	return l
}

func TestWhatWasPackedIsUnpacked(t *testing.T) {
	for size := range 6 {
		eachList(size, []uint32{0, 1, 2, 65535, 65536, 0x00010001}, func(words []uint32) {
			for number := range 1 << size {
				sites := subset(number, size)
				packed, head, e := Pack(words, sites)
				want, wantHead, wantE := wantPack(words, sites)
				if e != wantE || head != wantHead || !slices.Equal(packed, want) {
					t.Fatalf("Pack(%X, %d) = %X, %d, %d, want %X, %d, %d", words, sites, packed, head, e, want, wantHead, wantE)
				}
				if e != api.OK {
					continue
				}
				back, backSites, e := Unpack(packed, head)
				if e != api.OK || !slices.Equal(back, words) || !slices.Equal(backSites, sites) {
					t.Fatalf("Pack(%X, %d) is unpacked as %X, %d, %d", words, sites, back, backSites, e)
				}
			}
		})
	}
}

// packings tells how many lists of words and sites are packed as these words and this head.
func packings(packed []uint32, head int) int {
	found := 0
	for number := range 1 << len(packed) {
		sites, values := subset(number, len(packed)), slices.Clone(packed)
		for _, s := range sites {
			values[s] = packed[s] / 65536
		}
		if got, gotHead, e := wantPack(values, sites); e == api.OK && gotHead == head && slices.Equal(got, packed) {
			found++
		}
	}
	return found
}

func TestWhatIsUnpackedWasPacked(t *testing.T) {
	choices := []uint32{0, 1, 2, 3, 4, 5, 65535, 0x00010000, 0xFFFF0001, 0x00020002}
	for size := range 5 {
		eachList(size, choices, func(words []uint32) {
			for head := -2; head <= size+2; head++ {
				values, sites, e := Unpack(words, head)
				if found := packings(words, head); e == api.OK && found != 1 || e != api.OK && found != 0 {
					t.Fatalf("Unpack(%X, %d) = %X, %d, %d, but %d are packed so", words, head, values, sites, e, found)
				}
				if e != api.OK {
					unpackFails(t, "not packed", words, head)
					continue
				}
				again, againHead, e := Pack(values, sites)
				if e != api.OK || againHead != head || !slices.Equal(again, words) {
					t.Fatalf("Unpack(%X, %d) = %X, %d is packed as %X, %d, %d", words, head, values, sites, again, againHead, e)
				}
			}
		})
	}
}

func TestUnpackOfSpreadWords(t *testing.T) {
	next, seen := spread(), map[api.Errno]int{}
	for range 100000 {
		words := make([]uint32, next()%24)
		for at := range words {
			// Most links fall, so that chains become long and go wrong late.
			words[at] = next()&0xFFFF0000 | next()%uint32(at+1)
			if next()%16 == 0 {
				words[at] = words[at]&0xFFFF0000 | next()%26
			}
		}
		head := int(next()%27) - 1
		values, sites, e := Unpack(words, head)
		want, wantSites, wantE := wantUnpack(words, head)
		if e != wantE || !slices.Equal(values, want) || !slices.Equal(sites, wantSites) {
			t.Fatalf("Unpack(%X, %d) = %X, %d, %d, want %X, %d, %d", words, head, values, sites, e, want, wantSites, wantE)
		}
		if e == api.OK {
			if again, againHead, e := Pack(values, sites); e != api.OK || againHead != head || !slices.Equal(again, words) {
				t.Fatalf("Unpack(%X, %d) is packed as %X, %d, %d", words, head, again, againHead, e)
			}
		}
		seen[e]++
	}
	if seen[api.OK] < 1000 || seen[api.ErrChain] < 1000 {
		t.Errorf("too few of one kind: %v", seen)
	}
}

func TestPackOfSpreadSites(t *testing.T) {
	next, seen := spread(), map[api.Errno]int{}
	for range 100000 {
		words := make([]uint32, next()%12)
		for at := range words {
			words[at] = next() % 65536
			if next()%16 == 0 {
				words[at] = next()
			}
		}
		var sites []int
		for at := int(next()%4) - 1; at < len(words) && next()%8 != 0; at += int(next() % 6) {
			sites = append(sites, at)
		}
		packed, head, e := Pack(words, sites)
		want, wantHead, wantE := wantPack(words, sites)
		if e != wantE || head != wantHead || !slices.Equal(packed, want) {
			t.Fatalf("Pack(%X, %d) = %X, %d, %d, want %X, %d, %d", words, sites, packed, head, e, want, wantHead, wantE)
		}
		seen[e]++
	}
	for _, e := range []api.Errno{api.OK, api.ErrSite, api.ErrValue} {
		if seen[e] < 1000 {
			t.Errorf("the error %d was told %d times only", e, seen[e])
		}
	}
}

// R7

func TestWhatIsHandedInStays(t *testing.T) {
	// The room behind a list is the caller's too.
	wantWords, wantSites := []uint32{8, 7, 65536, 77, 78}, []int{0, 1, 2, 55, 56}
	words, sites := slices.Clone(wantWords), slices.Clone(wantSites)
	for size := range len(words) + 1 {
		for many := range len(sites) + 1 {
			Pack(words[:size], sites[:many])
		}
	}
	if !slices.Equal(words, wantWords) || !slices.Equal(sites, wantSites) {
		t.Errorf("Pack left %X, %d", words, sites)
	}
	wantPacked := []uint32{0x00080000, 0x00070001, 0x00060002, 4, 0x00050003, 0x00040000}
	packed := slices.Clone(wantPacked)
	for size := range len(packed) + 1 {
		for head := -1; head <= size+1; head++ {
			Unpack(packed[:size], head)
		}
	}
	if !slices.Equal(packed, wantPacked) {
		t.Errorf("Unpack left %X", packed)
	}
}

// spoil writes over all of l, and over the room behind it.
func spoil[T uint32 | int](l []T) {
	l = l[:cap(l)]
	for n := range l {
		l[n] = 99
	}
}

func TestWhatIsToldIsTheCallersOwn(t *testing.T) {
	for _, c := range chainCases() {
		words, sites := slices.Clone(c.values), slices.Clone(c.sites)
		one, _, _ := Pack(words, sites)
		two, _, _ := Pack(words, sites)
		spoil(one)
		if !slices.Equal(words, c.values) || !slices.Equal(sites, c.sites) || !slices.Equal(two, c.packed) {
			t.Errorf("%s: Pack shares what it tells", c.name)
		}
		spoil(words)
		spoil(sites)
		if !slices.Equal(two, c.packed) {
			t.Errorf("%s: what Pack told became %X", c.name, two)
		}
	}
	for _, c := range chainCases() {
		packed := slices.Clone(c.packed)
		oneWords, oneSites, _ := Unpack(packed, c.head)
		twoWords, twoSites, _ := Unpack(packed, c.head)
		spoil(oneWords)
		spoil(oneSites)
		if !slices.Equal(packed, c.packed) || !slices.Equal(twoWords, c.values) || !slices.Equal(twoSites, c.sites) {
			t.Errorf("%s: Unpack shares what it tells", c.name)
		}
		spoil(packed)
		if !slices.Equal(twoWords, c.values) || !slices.Equal(twoSites, c.sites) {
			t.Errorf("%s: what Unpack told became %X, %d", c.name, twoWords, twoSites)
		}
	}
}
