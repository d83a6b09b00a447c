package tests

import (
	"math"
	"slices"
	"testing"

	"loop.example/g00448/impl"
)

// shortLists has every list of at most so many of these numbers, in any order
// and with any of them more than once.
func shortLists(most int, numbers ...int) [][]int {
	out := [][]int{nil}
	from := 0
	for range most {
		to := len(out)
		for _, list := range out[from:to] {
			for _, i := range numbers {
				out = append(out, slices.Concat(list, []int{i}))
			}
		}
		from = to
	}
	return out
}

// oddLists has lists that are sets and lists that are none, with numbers that
// are no replicas, and numbers as far away as can be.
func oddLists() [][]int {
	return [][]int{
		{},
		{0},
		{-1},
		{0, 1, 2, 3, 4, 5, 6},
		{6, 5, 4, 3, 2, 1, 0},
		{0, 2, 4, 6},
		{1, 3, 5},
		{1, 3, 5, 7, 5, 3, 1},
		{3, 3, 3, 3, 3, 3, 3, 3, 3},
		{9, 1, 9, 1, 5},
		{-5, -3, -1},
		{-1, -3, -5, -3},
		{math.MinInt},
		{math.MaxInt},
		{math.MinInt, -1, 0, 1, math.MaxInt},
		{math.MaxInt, math.MinInt, math.MaxInt, 0},
		{math.MaxInt - 1, math.MaxInt},
		{math.MinInt + 1, math.MinInt},
		{1 << 32, 1<<32 + 1, 0, 1},
	}
}

func allLists() [][]int { return append(shortLists(3, -1, 0, 1, 2, 3), oddLists()...) }

// listNumbers has the numbers of allLists, and others around them.
func listNumbers() []int {
	return []int{
		-6, -5, -4, -3, -2, -1, 0, 1, 2, 3, 4, 5, 6, 7, 8, 9, 10,
		math.MinInt, math.MinInt + 1, math.MaxInt - 1, math.MaxInt, 1 << 31, 1 << 32, 1<<32 + 1, -1 << 32,
	}
}

func setOkByWords(n int, s []int) bool {
	for at, i := range s {
		if i < 0 || i >= n {
			return false
		}
		for _, ahead := range s[:at] {
			if ahead >= i {
				return false
			}
		}
	}
	return true
}

func setHasByWords(s []int, i int) bool {
	many := 0
	for _, other := range s {
		if other == i {
			many++
		}
	}
	return many > 0
}

func setAddByWords(s []int, i int) []int {
	var out []int
	placed := setHasByWords(s, i)
	for _, other := range s {
		if !placed && other >= i {
			out = append(out, i)
			placed = true
		}
		out = append(out, other)
	}
	if !placed {
		out = append(out, i)
	}
	return out
}

func setJoinByWords(a, b []int) []int {
	var out []int
	for _, list := range [][]int{a, b} {
		for _, i := range list {
			out = setAddByWords(out, i)
		}
	}
	return out
}

func commonByWords(a, b []int) int {
	many := 0
	for _, i := range a {
		if setHasByWords(b, i) {
			many++
		}
	}
	return many
}

func TestMaxN(t *testing.T) {
	if impl.MaxN != 7 {
		t.Error(impl.MaxN)
	}
}

func TestSetOk(t *testing.T) {
	cases := []struct {
		name string
		n    int
		s    []int
		want bool
	}{
		{"nobody", 4, nil, true},
		{"nobody, an empty list", 4, []int{}, true},
		{"the first one", 4, []int{0}, true},
		{"the last one", 4, []int{3}, true},
		{"some", 4, []int{1, 3}, true},
		{"all", 4, []int{0, 1, 2, 3}, true},
		{"all of MaxN", impl.MaxN, []int{0, 1, 2, 3, 4, 5, 6}, true},
		{"one twice", 4, []int{1, 1}, false},
		{"one twice, at the end", 4, []int{0, 1, 2, 2}, false},
		{"one twice, not side by side", 4, []int{1, 2, 1}, false},
		{"the wrong order", 4, []int{2, 1}, false},
		{"the wrong order at the beginning", 4, []int{1, 0, 2, 3}, false},
		{"the wrong order at the end", 4, []int{0, 1, 3, 2}, false},
		{"one below 0", 4, []int{-1}, false},
		{"one below 0 ahead of others", 4, []int{-1, 0, 1}, false},
		{"one below 0 behind others", 4, []int{0, 1, -1}, false},
		{"one that is n", 4, []int{4}, false},
		{"one that is n behind others", 4, []int{0, 1, 2, 3, 4}, false},
		{"one that is n ahead of others", 4, []int{4, 0, 1}, false},
		{"one that is n in the middle", 4, []int{0, 4, 1}, false},
		{"no n, nobody", 0, nil, true},
		{"no n, nobody, an empty list", 0, []int{}, true},
		{"no n, one", 0, []int{0}, false},
		{"no n, one below 0", 0, []int{-1}, false},
		{"n of 1", 1, []int{0}, true},
		{"n below 0, nobody", -1, nil, true},
		{"n below 0, one", -1, []int{0}, false},
		{"n below 0, one below that", -1, []int{-2}, false},
		{"the least n, nobody", math.MinInt, []int{}, true},
		{"the least n, one", math.MinInt, []int{0}, false},
		{"the least n, the least one", math.MinInt, []int{math.MinInt}, false},
		{"the least n, the greatest one", math.MinInt, []int{math.MaxInt}, false},
		{"n above MaxN", 8, []int{0, 7}, true},
		{"n far above MaxN", 1000, []int{5, 999}, true},
		{"n far above MaxN, one that is n", 1000, []int{5, 1000}, false},
		{"the greatest n", math.MaxInt, []int{0, math.MaxInt - 1}, true},
		{"the greatest n, one that is n", math.MaxInt, []int{0, math.MaxInt}, false},
		{"the least one", 4, []int{math.MinInt}, false},
		{"the greatest one", 4, []int{math.MaxInt}, false},
		{"as far apart as can be", math.MaxInt, []int{math.MaxInt, math.MinInt}, false},
	}
	for _, c := range cases {
		if got := impl.SetOk(c.n, c.s); got != c.want {
			t.Errorf("%s: SetOk(%d, %v) = %v", c.name, c.n, c.s, got)
		}
	}
}

func TestSetOkAsTheWordsSay(t *testing.T) {
	sizes := append(listNumbers(), 999, 1000)
	for _, s := range slices.Concat(allLists(), shortLists(4, 0, 1, 2, 3)) {
		for _, n := range sizes {
			if got := impl.SetOk(n, s); got != setOkByWords(n, s) {
				t.Fatalf("SetOk(%d, %v) = %v", n, s, got)
			}
		}
	}
}

// TestSetOkOfAllSets takes every set of 0 .. n - 1, and each of them with one
// number changed.
func TestSetOkOfAllSets(t *testing.T) {
	for n := range impl.MaxN + 2 {
		for bits := range 1 << n {
			s := setOfBits(bits)
			if !impl.SetOk(n, s) || len(s) > 0 && impl.SetOk(s[len(s)-1], s) {
				t.Fatalf("SetOk of %v, n %d", s, n)
			}
			for at := range s {
				for _, i := range []int{-1, 0, n - 1, n, s[0], s[len(s)-1]} {
					other := slices.Clone(s)
					other[at] = i
					if got := impl.SetOk(n, other); got != setOkByWords(n, other) {
						t.Fatalf("SetOk(%d, %v) = %v", n, other, got)
					}
				}
			}
		}
	}
}

// setOfBits is the set of the places at which bits has a 1.
func setOfBits(bits int) []int {
	var s []int
	for i := range 62 {
		if bits>>i&1 == 1 {
			s = append(s, i)
		}
	}
	return s
}

func TestSetHas(t *testing.T) {
	cases := []struct {
		name string
		s    []int
		i    int
		want bool
	}{
		{"of nobody", nil, 0, false},
		{"of an empty list", []int{}, 0, false},
		{"the only one", []int{3}, 3, true},
		{"not the only one", []int{3}, 2, false},
		{"at the first place", []int{1, 3, 5}, 1, true},
		{"in the middle", []int{1, 3, 5}, 3, true},
		{"at the last place", []int{1, 3, 5}, 5, true},
		{"below all", []int{1, 3, 5}, 0, false},
		{"between two", []int{1, 3, 5}, 4, false},
		{"above all", []int{1, 3, 5}, 6, false},
		{"in no order, at the first place", []int{5, 1, 3}, 5, true},
		{"in no order, in the middle", []int{5, 1, 3}, 1, true},
		{"in no order, at the last place", []int{5, 1, 3}, 3, true},
		{"in no order, not there", []int{5, 1, 3}, 4, false},
		{"descending", []int{5, 4, 3, 2, 1}, 1, true},
		{"there twice", []int{2, 7, 2}, 2, true},
		{"beside one that is there twice", []int{2, 7, 2}, 7, true},
		{"not there, beside one twice", []int{2, 7, 2}, 3, false},
		{"below 0", []int{-4, -2}, -2, true},
		{"below 0, not there", []int{4, 2}, -2, false},
		{"the least", []int{0, math.MinInt}, math.MinInt, true},
		{"the least, not there", []int{0, math.MaxInt}, math.MinInt, false},
		{"the greatest", []int{math.MaxInt, 0}, math.MaxInt, true},
		{"the greatest, not there", []int{math.MinInt, -1}, math.MaxInt, false},
		{"the same low bits", []int{1}, 1<<32 + 1, false},
	}
	for _, c := range cases {
		if got := impl.SetHas(c.s, c.i); got != c.want {
			t.Errorf("%s: SetHas(%v, %d) = %v", c.name, c.s, c.i, got)
		}
	}
}

func TestSetHasAsTheWordsSay(t *testing.T) {
	for _, s := range allLists() {
		for _, i := range listNumbers() {
			if got := impl.SetHas(s, i); got != setHasByWords(s, i) {
				t.Fatalf("SetHas(%v, %d) = %v", s, i, got)
			}
		}
	}
}

func TestSetAdd(t *testing.T) {
	cases := []struct {
		name string
		s    []int
		i    int
		want []int
	}{
		{"to nobody", nil, 3, []int{3}},
		{"to an empty list", []int{}, 0, []int{0}},
		{"ahead of one", []int{3}, 1, []int{1, 3}},
		{"behind one", []int{3}, 5, []int{3, 5}},
		{"ahead of all", []int{2, 4, 6}, 1, []int{1, 2, 4, 6}},
		{"between two", []int{2, 4, 6}, 3, []int{2, 3, 4, 6}},
		{"between the last two", []int{2, 4, 6}, 5, []int{2, 4, 5, 6}},
		{"behind all", []int{2, 4, 6}, 7, []int{2, 4, 6, 7}},
		{"there already, the only one", []int{3}, 3, []int{3}},
		{"there already, first", []int{2, 4, 6}, 2, []int{2, 4, 6}},
		{"there already, in the middle", []int{2, 4, 6}, 4, []int{2, 4, 6}},
		{"there already, last", []int{2, 4, 6}, 6, []int{2, 4, 6}},
		{"there already, in no order", []int{6, 2, 4}, 4, []int{6, 2, 4}},
		{"there already, behind one that is above it", []int{6, 2}, 2, []int{6, 2}},
		{"there already, twice", []int{2, 2}, 2, []int{2, 2}},
		{"there already, beside one that is there twice", []int{5, 2, 5}, 2, []int{5, 2, 5}},
		{"there already, twice, not side by side", []int{5, 2, 5}, 5, []int{5, 2, 5}},
		{"to no order, ahead of the first", []int{6, 2, 4}, 5, []int{5, 6, 2, 4}},
		{"to no order, ahead of the first, below all", []int{6, 2, 4}, 1, []int{1, 6, 2, 4}},
		{"to no order, in the middle", []int{2, 6, 4, 8}, 5, []int{2, 5, 6, 4, 8}},
		{"to no order, ahead of the last", []int{4, 2, 6}, 5, []int{4, 2, 5, 6}},
		{"to no order, at the end", []int{6, 2, 4}, 7, []int{6, 2, 4, 7}},
		{"to a descending one", []int{9, 7, 5, 3, 1}, 4, []int{4, 9, 7, 5, 3, 1}},
		{"ahead of one that is there twice", []int{1, 3, 3}, 2, []int{1, 2, 3, 3}},
		{"behind one that is there twice", []int{3, 3}, 4, []int{3, 3, 4}},
		{"below 0", []int{-3, 0}, -2, []int{-3, -2, 0}},
		{"the least", []int{0, 1}, math.MinInt, []int{math.MinInt, 0, 1}},
		{"the greatest", []int{0, 1}, math.MaxInt, []int{0, 1, math.MaxInt}},
		{"between the least and the greatest", []int{math.MinInt, math.MaxInt}, 0, []int{math.MinInt, 0, math.MaxInt}},
		{"the greatest, ahead of which nothing is", []int{math.MaxInt}, math.MinInt, []int{math.MinInt, math.MaxInt}},
	}
	for _, c := range cases {
		if got := impl.SetAdd(c.s, c.i); !slices.Equal(got, c.want) {
			t.Errorf("%s: SetAdd(%v, %d) = %v, want %v", c.name, c.s, c.i, got, c.want)
		}
	}
}

func TestSetAddAsTheWordsSay(t *testing.T) {
	for _, s := range append(allLists(), shortLists(5, 1, 3, 5)...) {
		for _, i := range listNumbers() {
			want := setAddByWords(s, i)
			got := impl.SetAdd(s, i)
			if !slices.Equal(got, want) {
				t.Fatalf("SetAdd(%v, %d) = %v, want %v", s, i, got, want)
			}
			if !impl.SetHas(got, i) || !slices.Equal(impl.SetAdd(got, i), got) {
				t.Fatalf("SetAdd(%v, %d) = %v; once more: %v", s, i, got, impl.SetAdd(got, i))
			}
		}
	}
}

func TestSetAddOfASetIsASet(t *testing.T) {
	for bits := range 1 << impl.MaxN {
		for i := range impl.MaxN {
			got := impl.SetAdd(setOfBits(bits), i)
			if want := setOfBits(bits | 1<<i); !slices.Equal(got, want) || !impl.SetOk(impl.MaxN, got) {
				t.Fatalf("SetAdd(%v, %d) = %v, want %v", setOfBits(bits), i, got, want)
			}
		}
	}
}

func TestSetJoin(t *testing.T) {
	cases := []struct {
		name string
		a, b []int
		want []int
	}{
		{"none and none", nil, nil, nil},
		{"empty lists", []int{}, []int{}, nil},
		{"none and some", nil, []int{1, 3}, []int{1, 3}},
		{"some and none", []int{1, 3}, nil, []int{1, 3}},
		{"the same twice", []int{1, 3}, []int{1, 3}, []int{1, 3}},
		{"one and itself", []int{2}, []int{2}, []int{2}},
		{"a share", []int{1, 3}, []int{0, 1}, []int{0, 1, 3}},
		{"a share, the other way round", []int{0, 1}, []int{1, 3}, []int{0, 1, 3}},
		{"no share", []int{0, 4}, []int{2, 6}, []int{0, 2, 4, 6}},
		{"all of one ahead of the other", []int{5, 6}, []int{0, 1}, []int{0, 1, 5, 6}},
		{"one within the other", []int{0, 1, 2, 3}, []int{1, 2}, []int{0, 1, 2, 3}},
		{"all replicas", []int{0, 2, 4, 6}, []int{1, 3, 5}, []int{0, 1, 2, 3, 4, 5, 6}},
		{"twice in a", []int{3, 3}, nil, []int{3}},
		{"twice in b", nil, []int{3, 3}, []int{3}},
		{"twice in both", []int{3, 1, 3}, []int{1, 3, 1}, []int{1, 3}},
		{"a in no order", []int{3, 1, 2}, []int{0}, []int{0, 1, 2, 3}},
		{"b in no order", []int{0}, []int{3, 1, 2}, []int{0, 1, 2, 3}},
		{"both in no order", []int{9, 1, 5}, []int{6, 2, 9, 4}, []int{1, 2, 4, 5, 6, 9}},
		{"below 0", []int{-1, 2}, []int{-3, 0}, []int{-3, -1, 0, 2}},
		{"the least and the greatest", []int{math.MaxInt, 0}, []int{0, math.MinInt}, []int{math.MinInt, 0, math.MaxInt}},
		{"the same low bits", []int{1 << 32}, []int{0}, []int{0, 1 << 32}},
	}
	for _, c := range cases {
		if got := impl.SetJoin(c.a, c.b); !slices.Equal(got, c.want) {
			t.Errorf("%s: SetJoin(%v, %v) = %v, want %v", c.name, c.a, c.b, got, c.want)
		}
	}
}

// TestPairsOfListsAsTheWordsSay joins each two lists, and counts what they have
// in common: what is joined is there once, in order.
func TestPairsOfListsAsTheWordsSay(t *testing.T) {
	lists := allLists()
	for _, a := range lists {
		for _, b := range lists {
			want := setJoinByWords(a, b)
			got := impl.SetJoin(a, b)
			if !slices.Equal(got, want) {
				t.Fatalf("SetJoin(%v, %v) = %v, want %v", a, b, got, want)
			}
			for at := 1; at < len(got); at++ {
				if got[at-1] >= got[at] {
					t.Fatalf("SetJoin(%v, %v) = %v does not ascend", a, b, got)
				}
			}
			if many := impl.Common(a, b); many != commonByWords(a, b) {
				t.Fatalf("Common(%v, %v) = %d", a, b, many)
			}
		}
	}
}

// TestSetJoinIsSetAddOfEach holds the program's own two functions against each
// other.
func TestSetJoinIsSetAddOfEach(t *testing.T) {
	lists := oddLists()
	for _, a := range lists {
		for _, b := range lists {
			var want []int
			for _, i := range slices.Concat(a, b) {
				want = impl.SetAdd(want, i)
			}
			if got := impl.SetJoin(a, b); !slices.Equal(got, want) {
				t.Fatalf("SetJoin(%v, %v) = %v, SetAdd of each gives %v", a, b, got, want)
			}
		}
	}
}

// TestPairsOfSets takes each two sets of replicas, as bits: joined in either
// order they are the same, each number is there once, and what they have in
// common is as much as was left away by that.
func TestPairsOfSets(t *testing.T) {
	for x := range 1 << impl.MaxN {
		for y := range 1 << impl.MaxN {
			a, b := setOfBits(x), setOfBits(y)
			joined, common := impl.SetJoin(a, b), impl.Common(a, b)
			if !slices.Equal(joined, setOfBits(x|y)) || !impl.SetOk(impl.MaxN, joined) {
				t.Fatalf("SetJoin(%v, %v) = %v", a, b, joined)
			}
			if common != len(setOfBits(x&y)) || common != impl.Common(b, a) || len(joined) != len(a)+len(b)-common {
				t.Fatalf("Common(%v, %v) = %d, the other way round %d", a, b, common, impl.Common(b, a))
			}
		}
	}
}

func TestCommon(t *testing.T) {
	cases := []struct {
		name string
		a, b []int
		want int
	}{
		{"none and none", nil, nil, 0},
		{"empty lists", []int{}, []int{}, 0},
		{"none and some", nil, []int{1, 3}, 0},
		{"some and none", []int{1, 3}, nil, 0},
		{"all", []int{0, 1, 2, 3}, []int{0, 1, 2, 3}, 4},
		{"some", []int{1, 3}, []int{0, 1}, 1},
		{"nothing", []int{0, 2, 4}, []int{1, 3, 5}, 0},
		{"one within the other", []int{1, 2}, []int{0, 1, 2, 3}, 2},
		{"the other within one", []int{0, 1, 2, 3}, []int{1, 2}, 2},
		{"twice in a", []int{3, 3}, []int{3}, 2},
		{"twice in a, not side by side", []int{3, 1, 3, 2, 3}, []int{0, 3}, 3},
		{"twice in a, not in b", []int{3, 3, 1}, []int{1}, 1},
		{"twice in b", []int{3}, []int{3, 3}, 1},
		{"twice in both", []int{3, 3}, []int{3, 3, 3}, 2},
		{"in no order", []int{5, 1, 4, 2}, []int{2, 9, 5}, 2},
		{"below 0", []int{-1, 0}, []int{-1}, 1},
		{"the least and the greatest", []int{math.MinInt, math.MaxInt, 0}, []int{math.MaxInt, math.MinInt}, 2},
		{"the same low bits", []int{0, 1}, []int{1 << 32, 1<<32 + 1}, 0},
	}
	for _, c := range cases {
		if got := impl.Common(c.a, c.b); got != c.want {
			t.Errorf("%s: Common(%v, %v) = %d, want %d", c.name, c.a, c.b, got, c.want)
		}
	}
}

func TestNoNumbersAndNilAreTheSame(t *testing.T) {
	none, empty := []int(nil), []int{}
	for _, n := range listNumbers() {
		if impl.SetOk(n, none) != impl.SetOk(n, empty) || impl.SetHas(none, n) != impl.SetHas(empty, n) || !slices.Equal(impl.SetAdd(none, n), impl.SetAdd(empty, n)) {
			t.Errorf("%d: nil and an empty list are told apart", n)
		}
	}
	for _, s := range allLists() {
		if !slices.Equal(impl.SetJoin(none, s), impl.SetJoin(empty, s)) || !slices.Equal(impl.SetJoin(s, none), impl.SetJoin(s, empty)) {
			t.Errorf("SetJoin with %v tells nil and an empty list apart", s)
		}
		if impl.Common(none, s) != impl.Common(empty, s) || impl.Common(s, none) != impl.Common(s, empty) {
			t.Errorf("Common with %v tells nil and an empty list apart", s)
		}
	}
}

// listWithRoom is s with room behind it, in which every write is seen.
func listWithRoom(s []int) ([]int, []int) {
	whole := slices.Concat(s, []int{901, 902, 903, 904})
	return whole[:len(s)], whole
}

func spoilInts(list []int) {
	for i := range list[:cap(list)] {
		list[:cap(list)][i] = -777
	}
}

func TestSetsDoNotReadBehindTheirLists(t *testing.T) {
	given, whole := listWithRoom([]int{1, 2})
	if !impl.SetOk(3, given) || impl.SetHas(given, 901) || impl.Common(given, whole) != 2 || impl.Common(whole, given) != 2 {
		t.Error("what stands behind a list counts")
	}
	if got := impl.SetJoin(given, given); !slices.Equal(got, []int{1, 2}) {
		t.Error("SetJoin", got)
	}
	if got := impl.SetAdd(given, 901); !slices.Equal(got, []int{1, 2, 901}) {
		t.Error("SetAdd", got)
	}
}

func TestSetsAreNewMemory(t *testing.T) {
	for _, s := range allLists() {
		for _, i := range listNumbers() {
			given, whole := listWithRoom(s)
			before := slices.Clone(whole)
			impl.SetOk(i, given)
			impl.SetHas(given, i)
			got := impl.SetAdd(given, i)
			if !slices.Equal(whole, before) {
				t.Fatalf("%v, %d: an argument was written into: %v", s, i, whole)
			}
			spoilInts(got)
			if !slices.Equal(whole, before) {
				t.Fatalf("SetAdd(%v, %d) shares memory with its argument: %v", s, i, whole)
			}
		}
	}
	lists := append(shortLists(2, 0, 1, 2), oddLists()...)
	for _, a := range lists {
		for _, b := range lists {
			checkPairMemory(t, a, b)
		}
	}
}

func checkPairMemory(t *testing.T, a, b []int) {
	t.Helper()
	givenA, wholeA := listWithRoom(a)
	givenB, wholeB := listWithRoom(b)
	beforeA, beforeB := slices.Clone(wholeA), slices.Clone(wholeB)
	impl.Common(givenA, givenB)
	joined := impl.SetJoin(givenA, givenB)
	if !slices.Equal(wholeA, beforeA) || !slices.Equal(wholeB, beforeB) {
		t.Fatalf("%v, %v: an argument was written into: %v, %v", a, b, wholeA, wholeB)
	}
	spoilInts(joined)
	if !slices.Equal(wholeA, beforeA) || !slices.Equal(wholeB, beforeB) {
		t.Fatalf("SetJoin(%v, %v) shares memory with an argument", a, b)
	}
}

// TestTwoAnswersShareNothing spoils one answer and asks again.
func TestTwoAnswersShareNothing(t *testing.T) {
	for _, s := range allLists() {
		for _, i := range []int{-2, 1, 7} {
			first, second := impl.SetAdd(s, i), impl.SetAdd(s, i)
			joined, again := impl.SetJoin(s, []int{i}), impl.SetJoin(s, []int{i})
			spoilInts(first)
			spoilInts(joined)
			if !slices.Equal(second, setAddByWords(s, i)) || !slices.Equal(again, setJoinByWords(s, []int{i})) {
				t.Fatalf("%v, %d: an answer shares memory with an earlier one", s, i)
			}
		}
	}
}

// TestListsThatAreTheSameMemory hands in one list as both arguments, and pieces
// of one list that overlap.
func TestListsThatAreTheSameMemory(t *testing.T) {
	one := []int{4, 2, 4, 0, 3}
	before := slices.Clone(one)
	for from := range len(one) + 1 {
		for to := from; to <= len(one); to++ {
			piece := one[from:to]
			if got, want := impl.SetJoin(one, piece), setJoinByWords(before, before[from:to]); !slices.Equal(got, want) {
				t.Errorf("SetJoin(%v, %v) = %v, want %v", one, piece, got, want)
			}
			if got, want := impl.Common(one, piece), commonByWords(before, before[from:to]); got != want {
				t.Errorf("Common(%v, %v) = %d, want %d", one, piece, got, want)
			}
			if got, want := impl.SetAdd(piece, 3), setAddByWords(before[from:to], 3); !slices.Equal(got, want) {
				t.Errorf("SetAdd(%v, 3) = %v, want %v", piece, got, want)
			}
			if !slices.Equal(one, before) {
				t.Fatalf("an argument was written into: %v", one)
			}
		}
	}
}

// TestGreatLists has lists far beyond what replicas there may be: nothing in
// the chapter sets a limit to them.
func TestGreatLists(t *testing.T) {
	const many = 20000
	up, down, twice := make([]int, many), make([]int, many), make([]int, 2*many)
	for i := range many {
		up[i], down[many-1-i] = i, i
		twice[i], twice[2*many-1-i] = i, i
	}
	if !impl.SetOk(many, up) || impl.SetOk(many-1, up) || impl.SetOk(many, down) || impl.SetOk(many, twice) {
		t.Error("SetOk")
	}
	if !impl.SetHas(down, 0) || !impl.SetHas(down, many-1) || impl.SetHas(twice, many) {
		t.Error("SetHas")
	}
	if !slices.Equal(impl.SetJoin(down, twice), up) || !slices.Equal(impl.SetJoin(nil, down), up) {
		t.Error("SetJoin")
	}
	if impl.Common(twice, up) != 2*many || impl.Common(up, twice) != many || impl.Common(down, up[:7]) != 7 {
		t.Error("Common")
	}
	if got := impl.SetAdd(twice, many); len(got) != 2*many+1 || got[2*many] != many {
		t.Error("SetAdd")
	}
}
