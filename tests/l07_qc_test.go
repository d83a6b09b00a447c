package tests

import (
	"math"
	"slices"
	"strings"
	"testing"

	"loop.example/g00448/impl"
)

// rightConfs has every Conf that the document allows.
func rightConfs() []impl.Conf {
	var out []impl.Conf
	for n := 4; n <= 7; n++ {
		for fan := 1; fan <= 6; fan++ {
			out = append(out, impl.Conf{N: n, Fan: fan})
		}
	}
	return out
}

// wrongConfs has a wrong N, a wrong Fan, or both.
func wrongConfs() []impl.Conf {
	far := []int{-1, 1 << 32, 1<<32 + 4, -1 << 32, math.MinInt, math.MinInt + 4, math.MaxInt}
	var out []impl.Conf
	for _, n := range append([]int{-4, 0, 1, 2, 3, 8, 9, 10, 100}, far...) {
		for _, fan := range []int{0, 1, 2, 6, 7} {
			out = append(out, impl.Conf{N: n, Fan: fan})
		}
	}
	for _, fan := range append([]int{-6, -2, 0, 7, 8, 100}, far...) {
		for n := 4; n <= 7; n++ {
			out = append(out, impl.Conf{N: n, Fan: fan})
		}
	}
	return out
}

func allConfs() []impl.Conf { return append(rightConfs(), wrongConfs()...) }

func confOkByWords(c impl.Conf) bool {
	return slices.Contains([]int{4, 5, 6, 7}, c.N) && slices.Contains([]int{1, 2, 3, 4, 5, 6}, c.Fan)
}

// enoughOf is how many of so many replicas are a Quorum, worked out by hand.
func enoughOf(n int) int { return map[int]int{4: 3, 5: 4, 6: 5, 7: 5}[n] }

func qcOf(view int, name string, who ...int) impl.Qc {
	return impl.Qc{View: view, Name: name, Who: who}
}

func cloneQc(q impl.Qc) impl.Qc {
	return impl.Qc{View: q.View, Name: strings.Clone(q.Name), Who: slices.Clone(q.Who)}
}

func sameQc(a, b impl.Qc) bool {
	return a.View == b.View && a.Name == b.Name && slices.Equal(a.Who, b.Who)
}

func viewByWords(name string) int {
	steps, _ := stepsByWords(name)
	if len(steps) == 0 {
		return 0
	}
	return steps[len(steps)-1].View
}

func qcOkByWords(c impl.Conf, q impl.Qc) bool {
	if !confOkByWords(c) {
		return false
	}
	if q.View == 0 && q.Name == "" && len(q.Who) == 0 {
		return true
	}
	_, named := stepsByWords(q.Name)
	return named && q.View >= 1 && q.View == viewByWords(q.Name) && setOkByWords(c.N, q.Who) && len(q.Who) >= enoughOf(c.N)
}

// nearQcs has, of each of these names, certificates with its View and others,
// and with sets and lists that are none.
func nearQcs(names []string, lists [][]int) []impl.Qc {
	var out []impl.Qc
	for _, name := range names {
		view := viewByWords(name)
		for _, v := range []int{view, view - 1, view + 1, 0, -view} {
			for _, who := range lists {
				out = append(out, qcOf(v, name, who...))
			}
		}
	}
	return out
}

// qcLists has lists around the Quorum of each N, in and out of order.
func qcLists() [][]int {
	out := [][]int{
		nil, {},
		{0, 0, 1}, {0, 1, 1}, {1, 1, 1}, {0, 0, 0, 0, 0}, {0, 1, 2, 2}, {0, 0, 1, 2, 3}, {0, 1, 2, 3, 3, 4, 5},
		{2, 1, 0}, {0, 2, 1}, {1, 0, 2, 3}, {0, 1, 3, 2}, {6, 5, 4, 3, 2, 1, 0}, {0, 1, 2, 3, 5, 4},
		{-1, 0, 1}, {-1, 0, 1, 2}, {-1, 0, 1, 2, 3, 4, 5}, {0, 1, -1},
		{0, 1, 4}, {0, 1, 2, 5}, {0, 1, 2, 3, 6}, {0, 1, 2, 3, 7}, {2, 3, 4, 5, 6, 7},
		{math.MinInt, 0, 1}, {0, 1, math.MaxInt}, {math.MinInt, math.MaxInt},
		{0, 1, 2, 3, 4, 5, 6, 7, 8, 9, 10},
	}
	for n := 0; n <= 8; n++ {
		out = append(out, setOfBits(1<<n-1))
	}
	return out
}

func qcNames() []string {
	return slices.Concat(rightNames(), []string{"/", "/2", "/2|/2|", "/0|", "/61|", "/3|/2|", "x", "start", "/2|x", "/02|", " "})
}

func TestConfOk(t *testing.T) {
	cases := []struct {
		name string
		c    impl.Conf
		want bool
	}{
		{"ordinary", impl.Conf{N: 4, Fan: 2}, true},
		{"the least", impl.Conf{N: 4, Fan: 1}, true},
		{"the greatest", impl.Conf{N: impl.MaxN, Fan: 6}, true},
		{"the least N, the greatest Fan", impl.Conf{N: 4, Fan: 6}, true},
		{"the greatest N, the least Fan", impl.Conf{N: 7, Fan: 1}, true},
		{"N one too few", impl.Conf{N: 3, Fan: 2}, false},
		{"N one too many", impl.Conf{N: impl.MaxN + 1, Fan: 2}, false},
		{"Fan one too few", impl.Conf{N: 4, Fan: 0}, false},
		{"Fan one too many", impl.Conf{N: 7, Fan: 7}, false},
		{"zero", impl.Conf{}, false},
		{"the wrong way round", impl.Conf{N: 2, Fan: 4}, false},
		{"N below 0", impl.Conf{N: -4, Fan: 2}, false},
		{"Fan below 0", impl.Conf{N: 4, Fan: -1}, false},
		{"the least ints", impl.Conf{N: math.MinInt, Fan: math.MinInt}, false},
		{"the greatest ints", impl.Conf{N: math.MaxInt, Fan: math.MaxInt}, false},
		{"the same low bits", impl.Conf{N: 1<<32 + 4, Fan: 1<<32 + 2}, false},
	}
	for _, c := range cases {
		if got := impl.ConfOk(c.c); got != c.want {
			t.Errorf("%s: ConfOk(%v) = %v", c.name, c.c, got)
		}
	}
	for _, c := range allConfs() {
		if got := impl.ConfOk(c); got != confOkByWords(c) {
			t.Errorf("ConfOk(%v) = %v", c, got)
		}
	}
}

func TestFaultsAndQuorum(t *testing.T) {
	faults := map[int]int{4: 1, 5: 1, 6: 1, 7: 2}
	for _, c := range rightConfs() {
		if impl.Faults(c) != faults[c.N] || impl.Quorum(c) != enoughOf(c.N) || impl.Quorum(c) != c.N-impl.Faults(c) {
			t.Errorf("%v: Faults %d, Quorum %d", c, impl.Faults(c), impl.Quorum(c))
		}
		// Those who do not lie are enough by themselves, and two of enough
		// have more in common than can lie.
		if c.N-impl.Faults(c) < impl.Quorum(c) || 2*impl.Quorum(c)-c.N <= impl.Faults(c) {
			t.Errorf("%v: Faults %d, Quorum %d", c, impl.Faults(c), impl.Quorum(c))
		}
	}
	for _, c := range wrongConfs() {
		if impl.Faults(c) != 0 || impl.Quorum(c) != 0 {
			t.Errorf("%v: Faults %d, Quorum %d", c, impl.Faults(c), impl.Quorum(c))
		}
	}
}

func TestQcFirst(t *testing.T) {
	q := impl.QcFirst()
	if q.View != 0 || q.Name != "" || len(q.Who) != 0 {
		t.Fatal(q)
	}
	q.View, q.Name, q.Who = 7, "/7|", append(q.Who, 1, 2, 3)
	spoilInts(q.Who)
	if again := impl.QcFirst(); again.View != 0 || again.Name != "" || len(again.Who) != 0 {
		t.Error(again)
	}
}

func TestQcOk(t *testing.T) {
	four, seven := impl.Conf{N: 4, Fan: 2}, impl.Conf{N: 7, Fan: 1}
	cases := []struct {
		name string
		c    impl.Conf
		q    impl.Qc
		want bool
	}{
		{"the beginning", four, impl.QcFirst(), true},
		{"the beginning, nil", four, impl.Qc{Who: nil}, true},
		{"the beginning, an empty list", four, impl.Qc{Who: []int{}}, true},
		{"the beginning, of seven", seven, impl.QcFirst(), true},
		{"the beginning, somebody", four, qcOf(0, "", 0), false},
		{"the beginning, enough", four, qcOf(0, "", 0, 1, 2), false},
		{"the beginning, all", four, qcOf(0, "", 0, 1, 2, 3), false},
		{"the beginning, another View", four, qcOf(1, ""), false},
		{"the beginning, another View, enough", four, qcOf(1, "", 0, 1, 2), false},
		{"the beginning, a View below 0", four, qcOf(-1, ""), false},
		{"the beginning, a View below 0, enough", four, qcOf(-1, "", 0, 1, 2), false},
		{"enough", four, qcOf(3, "/3|", 0, 1, 3), true},
		{"one fewer", four, qcOf(3, "/3|", 0, 1), false},
		{"all", four, qcOf(3, "/3|", 0, 1, 2, 3), true},
		{"nobody", four, qcOf(3, "/3|"), false},
		{"one", four, qcOf(3, "/3|", 3), false},
		{"enough of seven", seven, qcOf(3, "/3|", 0, 2, 3, 5, 6), true},
		{"one fewer of seven", seven, qcOf(3, "/3|", 0, 2, 3, 6), false},
		{"all of seven", seven, qcOf(3, "/3|", 0, 1, 2, 3, 4, 5, 6), true},
		{"enough of four is too few of five", impl.Conf{N: 5, Fan: 1}, qcOf(3, "/3|", 0, 1, 3), false},
		{"the first View", four, qcOf(1, "/1|", 1, 2, 3), true},
		{"the last View", four, qcOf(60, "/60|", 1, 2, 3), true},
		{"several steps", four, qcOf(9, "/2|0>1:5#0/3|/9|1>2:7#0,1>2:7#1", 0, 1, 2), true},
		{"the View of a step ahead", four, qcOf(3, "/2|0>1:5#0/3|/9|", 0, 1, 2), false},
		{"a View one below", four, qcOf(2, "/3|", 0, 1, 2), false},
		{"a View one above", four, qcOf(4, "/3|", 0, 1, 2), false},
		{"View 0", four, qcOf(0, "/3|", 0, 1, 2), false},
		{"View 0, nobody", four, qcOf(0, "/3|"), false},
		{"a View below 0", four, qcOf(-3, "/3|", 0, 1, 2), false},
		{"the least View", four, qcOf(math.MinInt, "/3|", 0, 1, 2), false},
		{"the greatest View", four, qcOf(math.MaxInt, "/3|", 0, 1, 2), false},
		{"no name", four, qcOf(3, "/3", 0, 1, 2), false},
		{"no name, View 0", four, qcOf(0, "/3", 0, 1, 2), false},
		{"no name, View 0, nobody", four, qcOf(0, "/3"), false},
		{"start", four, qcOf(0, "start"), false},
		{"a View that is too high", four, qcOf(61, "/61|", 0, 1, 2), false},
		{"a step 0", four, qcOf(0, "/0|", 0, 1, 2), false},
		{"a number twice", four, qcOf(3, "/3|", 0, 1, 1), false},
		{"a number twice, enough others", four, qcOf(3, "/3|", 0, 1, 2, 2), false},
		{"the wrong order", four, qcOf(3, "/3|", 0, 2, 1), false},
		{"the wrong order of all", four, qcOf(3, "/3|", 3, 2, 1, 0), false},
		{"one below 0", four, qcOf(3, "/3|", -1, 0, 1), false},
		{"one below 0, enough others", four, qcOf(3, "/3|", -1, 0, 1, 2), false},
		{"one that is N", four, qcOf(3, "/3|", 0, 1, 4), false},
		{"one that is N, enough others", four, qcOf(3, "/3|", 0, 1, 2, 4), false},
		{"one that is N of seven", seven, qcOf(3, "/3|", 0, 1, 2, 3, 4, 5, 6, 7), false},
		{"N one too few", impl.Conf{N: 3, Fan: 1}, qcOf(3, "/3|", 0, 1, 2), false},
		{"N one too many", impl.Conf{N: 8, Fan: 1}, qcOf(3, "/3|", 0, 1, 2, 3, 4, 5, 6, 7), false},
		{"Fan one too few", impl.Conf{N: 4, Fan: 0}, qcOf(3, "/3|", 0, 1, 2, 3), false},
		{"Fan one too many", impl.Conf{N: 4, Fan: 7}, qcOf(3, "/3|", 0, 1, 2, 3), false},
		{"a wrong N, the beginning", impl.Conf{N: 3, Fan: 1}, impl.QcFirst(), false},
		{"a wrong Fan, the beginning", impl.Conf{N: 4, Fan: 7}, impl.QcFirst(), false},
		{"no Conf, the beginning", impl.Conf{}, impl.QcFirst(), false},
		{"no Conf, nobody", impl.Conf{}, qcOf(3, "/3|"), false},
	}
	for _, c := range cases {
		if got := impl.QcOk(c.c, c.q); got != c.want {
			t.Errorf("%s: QcOk(%v, %v) = %v", c.name, c.c, c.q, got)
		}
	}
}

func TestQcOkAsTheWordsSay(t *testing.T) {
	for _, q := range nearQcs(qcNames(), qcLists()) {
		for n := 3; n <= 8; n++ {
			for _, fan := range []int{0, 1, 6} {
				c := impl.Conf{N: n, Fan: fan}
				if got := impl.QcOk(c, q); got != qcOkByWords(c, q) {
					t.Fatalf("QcOk(%v, %v) = %v", c, q, got)
				}
			}
		}
	}
	for _, name := range wrongNames() {
		for _, view := range []int{0, 1, 2, 3, 60} {
			if q := qcOf(view, name, 0, 1, 2, 3); impl.QcOk(impl.Conf{N: 4, Fan: 2}, q) {
				t.Fatalf("QcOk of %v", q)
			}
		}
	}
	for _, c := range allConfs() {
		all := qcOf(2, "/2|", setOfBits(1<<max(0, min(c.N, 20))-1)...)
		if impl.QcOk(c, impl.QcFirst()) != confOkByWords(c) || impl.QcOk(c, all) != confOkByWords(c) {
			t.Errorf("QcOk of %v", c)
		}
	}
}

// TestTwoCertificatesHaveMoreInCommonThanLiars takes each two sets of replicas
// that QcOk takes, for every N.
func TestTwoCertificatesHaveMoreInCommonThanLiars(t *testing.T) {
	for _, c := range rightConfs() {
		var right []impl.Qc
		for bits := range 1 << c.N {
			q := qcOf(5, "/2|/5|", setOfBits(bits)...)
			if impl.QcOk(c, q) != (len(q.Who) >= enoughOf(c.N)) {
				t.Fatalf("QcOk(%v, %v) = %v", c, q, impl.QcOk(c, q))
			}
			if impl.QcOk(c, q) {
				right = append(right, q)
			}
		}
		if len(right) == 0 {
			t.Fatalf("%v: nothing is QcOk", c)
		}
		for _, a := range right {
			for _, b := range right {
				if impl.Common(a.Who, b.Who) <= impl.Faults(c) {
					t.Fatalf("%v: %v and %v have %d in common", c, a, b, impl.Common(a.Who, b.Who))
				}
			}
		}
	}
}

// pairQcs has certificates that differ from each other in little, right ones
// and wrong ones.
func pairQcs() []impl.Qc {
	return []impl.Qc{
		impl.QcFirst(),
		{Who: []int{}},
		qcOf(1, ""),
		qcOf(-1, ""),
		qcOf(0, "", 0),
		qcOf(0, "/3|"),
		qcOf(3, "/3|"),
		qcOf(3, "/3|", 0, 1),
		qcOf(3, "/3|", 0, 1, 2),
		qcOf(3, "/3|", 0, 1, 3),
		qcOf(3, "/3|", 1, 2, 3),
		qcOf(3, "/3|", 0, 1, 2, 3),
		qcOf(3, "/3|", 2, 1, 0),
		qcOf(3, "/3|", 0, 2, 1),
		qcOf(3, "/3|", 0, 1, 2, 2),
		qcOf(3, "/3|", 0),
		qcOf(2, "/3|", 0, 1, 2),
		qcOf(4, "/3|", 0, 1, 2),
		qcOf(3, "/1|/3|", 0, 1, 2),
		qcOf(3, "/3|0>1:5#0", 0, 1, 2),
		qcOf(3, "/3", 0, 1, 2),
		qcOf(3, "", 0, 1, 2),
		qcOf(13, "/13|", 0, 1, 2),
		qcOf(60, "/60|", 1, 2, 3),
		qcOf(-3, "/3|", 0, 1, 2),
		qcOf(-4, "x", -1, 9),
		qcOf(math.MinInt, "/3|", 0, 1, 2),
		qcOf(math.MinInt+1, "", 2),
		qcOf(math.MaxInt, "/3|", 0, 1, 2),
		qcOf(math.MaxInt-1, "/3|", 0, 1, 2),
		qcOf(1<<32+3, "/3|", 0, 1, 2),
		qcOf(3, "/3|", math.MinInt, math.MaxInt),
	}
}

func TestQcSame(t *testing.T) {
	q := qcOf(3, "/3|", 0, 1, 2)
	cases := []struct {
		name string
		a, b impl.Qc
		want bool
	}{
		{"alike", q, cloneQc(q), true},
		{"itself", q, q, true},
		{"the beginning", impl.QcFirst(), impl.Qc{}, true},
		{"nil and an empty list", impl.Qc{Who: nil}, impl.Qc{Who: []int{}}, true},
		{"nil and an empty list, of a block", impl.Qc{View: 3, Name: "/3|"}, impl.Qc{View: 3, Name: "/3|", Who: []int{}}, true},
		{"another View", q, qcOf(4, "/3|", 0, 1, 2), false},
		{"the same low bits of View", q, qcOf(1<<32+3, "/3|", 0, 1, 2), false},
		{"another Name", q, qcOf(3, "/1|/3|", 0, 1, 2), false},
		{"a Name that goes on", q, qcOf(3, "/3|0>1:5#0", 0, 1, 2), false},
		{"no Name", q, qcOf(3, "", 0, 1, 2), false},
		{"another Who", q, qcOf(3, "/3|", 0, 1, 3), false},
		{"another first of Who", q, qcOf(3, "/3|", -1, 1, 2), false},
		{"Who goes on", q, qcOf(3, "/3|", 0, 1, 2, 3), false},
		{"Who goes on with 0", q, qcOf(3, "/3|", 0, 1, 2, 0), false},
		{"nobody", q, qcOf(3, "/3|"), false},
		{"Who in another order", q, qcOf(3, "/3|", 0, 2, 1), false},
		{"one twice", q, qcOf(3, "/3|", 0, 1, 1), false},
		{"somebody at the beginning", impl.QcFirst(), qcOf(0, "", 0), false},
		{"not QcOk, alike", qcOf(-7, "x", 9, 1, 9), qcOf(-7, "x", 9, 1, 9), true},
		{"not QcOk, another order", qcOf(-7, "x", 9, 1, 9), qcOf(-7, "x", 9, 9, 1), false},
	}
	for _, c := range cases {
		if impl.QcSame(c.a, c.b) != c.want || impl.QcSame(c.b, c.a) != c.want {
			t.Errorf("%s: QcSame(%v, %v) is not %v", c.name, c.a, c.b, c.want)
		}
	}
	for i, a := range pairQcs() {
		for j, b := range pairQcs() {
			// The first two are the beginning, with nil and with an empty list.
			if want := i == j || i < 2 && j < 2; impl.QcSame(a, b) != want {
				t.Errorf("QcSame(%v, %v) is not %v", a, b, want)
			}
		}
	}
}

func TestQcLater(t *testing.T) {
	low, high := qcOf(3, "/3|", 0, 1, 2), qcOf(4, "/4|", 1, 2, 3)
	cases := []struct {
		name       string
		a, b, want impl.Qc
	}{
		{"a above b", high, low, high},
		{"a below b", low, high, high},
		{"alike", low, low, low},
		{"the beginning and another", impl.QcFirst(), low, low},
		{"another and the beginning", low, impl.QcFirst(), low},
		{"the beginning twice", impl.QcFirst(), impl.QcFirst(), impl.QcFirst()},
		{"the same View, another Name", low, qcOf(3, "/2|/3|", 0, 1, 2), qcOf(3, "/2|/3|", 0, 1, 2)},
		{"the same View, a longer Name in a", qcOf(3, "/2|/3|", 0, 1, 2), low, low},
		{"the same View, more of Who in a", qcOf(3, "/3|", 0, 1, 2, 3), low, low},
		{"the same View, nobody in b", low, qcOf(3, "/3|"), qcOf(3, "/3|")},
		{"by View, not by Name", qcOf(10, "/10|", 0, 1, 2), qcOf(9, "/9|", 0, 1, 2), qcOf(10, "/10|", 0, 1, 2)},
		{"by View, not by height", qcOf(5, "/5|", 0, 1, 2), qcOf(4, "/1|/2|/3|/4|", 0, 1, 2), qcOf(5, "/5|", 0, 1, 2)},
		{"by View, not by ViewOf", qcOf(9, "/2|", 0), qcOf(4, "/60|", 1), qcOf(9, "/2|", 0)},
		{"below 0", qcOf(-1, "x"), qcOf(-2, "y"), qcOf(-1, "x")},
		{"below 0, the other way round", qcOf(-2, "y"), qcOf(-1, "x"), qcOf(-1, "x")},
		{"below 0 and the beginning", qcOf(-1, "", 1), impl.QcFirst(), impl.QcFirst()},
		{"the least and the greatest", qcOf(math.MinInt, "y", 1), qcOf(math.MaxInt, "x", 2), qcOf(math.MaxInt, "x", 2)},
		{"the greatest and the least", qcOf(math.MaxInt, "x", 2), qcOf(math.MinInt, "y", 1), qcOf(math.MaxInt, "x", 2)},
		{"the least and 1", qcOf(math.MinInt, "y", 1), low, low},
		{"the least twice", qcOf(math.MinInt, "y", 1), qcOf(math.MinInt, "x", 2), qcOf(math.MinInt, "x", 2)},
		{"the same low bits", qcOf(1<<32, "x", 1), low, qcOf(1<<32, "x", 1)},
	}
	for _, c := range cases {
		if got := impl.QcLater(c.a, c.b); !sameQc(got, c.want) {
			t.Errorf("%s: QcLater(%v, %v) = %v, want %v", c.name, c.a, c.b, got, c.want)
		}
	}
}

// TestPairsOfCertificates holds QcSame and QcLater of each two against the
// document's words.
func TestPairsOfCertificates(t *testing.T) {
	all := append(pairQcs(), nearQcs(rightNames()[:6], qcLists()[:8])...)
	for _, a := range all {
		for _, b := range all {
			if got := impl.QcSame(a, b); got != sameQc(a, b) {
				t.Fatalf("QcSame(%v, %v) = %v", a, b, got)
			}
			want := b
			if a.View > b.View {
				want = a
			}
			if got := impl.QcLater(a, b); !sameQc(got, want) || !impl.QcSame(got, want) {
				t.Fatalf("QcLater(%v, %v) = %v, want %v", a, b, got, want)
			}
		}
	}
}

// qcWithRoom is q with room behind Who, in which every write is seen.
func qcWithRoom(q impl.Qc) (impl.Qc, []int) {
	given, whole := listWithRoom(q.Who)
	return impl.Qc{View: q.View, Name: q.Name, Who: given}, whole
}

func TestCertificatesAreNewMemory(t *testing.T) {
	conf := impl.Conf{N: 4, Fan: 2}
	for _, a := range pairQcs() {
		for _, b := range pairQcs() {
			givenA, wholeA := qcWithRoom(a)
			givenB, wholeB := qcWithRoom(b)
			beforeA, beforeB := slices.Clone(wholeA), slices.Clone(wholeB)
			impl.QcOk(conf, givenA)
			impl.QcSame(givenA, givenB)
			got := impl.QcLater(givenA, givenB)
			if !slices.Equal(wholeA, beforeA) || !slices.Equal(wholeB, beforeB) || !sameQc(givenA, a) || !sameQc(givenB, b) {
				t.Fatalf("%v, %v: an argument was written into", a, b)
			}
			want := cloneQc(got)
			again := impl.QcLater(givenA, givenB)
			spoilInts(got.Who)
			if !slices.Equal(wholeA, beforeA) || !slices.Equal(wholeB, beforeB) {
				t.Fatalf("QcLater(%v, %v) shares memory with an argument", a, b)
			}
			if !sameQc(again, want) {
				t.Fatalf("QcLater(%v, %v): an answer shares memory with an earlier one", a, b)
			}
			spoilInts(wholeA)
			spoilInts(wholeB)
			if !sameQc(again, want) {
				t.Fatalf("QcLater(%v, %v): an answer changes with an argument", a, b)
			}
		}
	}
}

// TestCertificatesDoNotReadBehindWho hands in a certificate with the one behind
// it who would make it enough.
func TestCertificatesDoNotReadBehindWho(t *testing.T) {
	conf := impl.Conf{N: 4, Fan: 2}
	whole := []int{0, 1, 2, 3}
	short := qcOf(3, "/3|", whole[:2]...)
	if impl.QcOk(conf, short) || impl.QcSame(short, qcOf(3, "/3|", whole...)) || !impl.QcSame(short, qcOf(3, "/3|", 0, 1)) {
		t.Error("what stands behind Who counts")
	}
	if got := impl.QcLater(short, short); len(got.Who) != 2 {
		t.Error(got)
	}
	if !impl.QcOk(conf, impl.Qc{Who: whole[:0]}) || !impl.QcSame(impl.QcFirst(), impl.Qc{Who: whole[:0]}) {
		t.Error("nobody, with room behind, is not the beginning")
	}
}

// TestGreatCertificates has a Name and a Who far beyond what is right: they are
// refused, or told as they are.
func TestGreatCertificates(t *testing.T) {
	who := make([]int, 50000)
	for i := range who {
		who[i] = i
	}
	name := strings.Repeat("/1|", 50000)
	great := impl.Qc{View: 1, Name: name, Who: who}
	for _, c := range allConfs() {
		if impl.QcOk(c, great) || impl.QcOk(c, qcOf(1, "/1|", who...)) || impl.QcOk(c, qcOf(1, name, 0, 1, 2, 3)) {
			t.Fatalf("QcOk(%v) of a great one", c)
		}
	}
	if got := impl.QcLater(great, impl.QcFirst()); !impl.QcSame(got, great) || !sameQc(got, great) {
		t.Error("QcLater of a great one")
	}
	if impl.QcSame(great, qcOf(1, name, who[1:]...)) || impl.QcSame(great, qcOf(1, name[3:], who...)) {
		t.Error("QcSame of great ones")
	}
}
