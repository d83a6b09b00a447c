package tests

import (
	"math"
	"slices"
	"strconv"
	"testing"

	"loop.example/g00448/impl"
)

// leftByWords divides as it is done on paper, digit by digit.
func leftByWords(view, n int) int {
	left := 0
	for _, digit := range strconv.Itoa(view) {
		left = (left*10 + int(digit-'0')) % n
	}
	return left
}

// orderByWords is the order of a view, each behind the one before it; none
// where there is no tree.
func orderByWords(c impl.Conf, view int) []int {
	if !confOkByWords(c) || view < 0 {
		return nil
	}
	order := []int{leftByWords(view, c.N)}
	for len(order) < c.N {
		next := order[len(order)-1] + 1
		if next == c.N {
			next = 0
		}
		order = append(order, next)
	}
	return order
}

func rootByWords(c impl.Conf, view int) int { return sitsByWords(c, view, 0) }

func seatByWords(c impl.Conf, view, i int) int { return slices.Index(orderByWords(c, view), i) }

func sitsByWords(c impl.Conf, view, seat int) int {
	order := orderByWords(c, view)
	if seat < 0 || seat >= len(order) {
		return -1
	}
	return order[seat]
}

// upByWords hands the places out, Fan to each one from the root on, and does
// not divide.
func upByWords(c impl.Conf, view, i int) int {
	seat := seatByWords(c, view, i)
	next := 1
	for _, up := range orderByWords(c, view) {
		for range c.Fan {
			if next == seat {
				return up
			}
			next++
		}
	}
	return -1
}

func kidsByWords(c impl.Conf, view, i int) []int {
	var kids []int
	for _, j := range orderByWords(c, view) {
		if up := upByWords(c, view, j); up >= 0 && up == i {
			kids = append(kids, j)
		}
	}
	slices.Sort(kids)
	return kids
}

// underByWords goes down, from kid to kid.
func underByWords(c impl.Conf, view, i int) []int {
	if seatByWords(c, view, i) < 0 {
		return nil
	}
	under := []int{i}
	for _, kid := range kidsByWords(c, view, i) {
		under = append(under, underByWords(c, view, kid)...)
	}
	slices.Sort(under)
	return under
}

func wayByWords(c impl.Conf, view, i int) []int {
	if seatByWords(c, view, i) < 0 {
		return nil
	}
	return append([]int{i}, wayByWords(c, view, upByWords(c, view, i))...)
}

// treeViews has more than N views in a row, and the greatest ones.
func treeViews() []int {
	return append(viewsFrom(0, 17), 59, 60, 61, 1<<31-1, 1<<31, 1<<32-1, 1<<32, 1<<32+1,
		math.MaxInt-7, math.MaxInt-6, math.MaxInt-5, math.MaxInt-4, math.MaxInt-3, math.MaxInt-2, math.MaxInt-1, math.MaxInt)
}

func wrongViews() []int {
	return []int{-1, -2, -3, -4, -5, -6, -7, -8, -28, -420, -1 << 32, math.MinInt, math.MinInt + 1, math.MinInt + 7}
}

// noPlaces has what is neither a replica nor a place of so many.
func noPlaces(n int) []int {
	return []int{
		-1, -2, -n, -n - 1, n, n + 1, 2 * n, 2*n + 1, 100, 1 << 31, 1 << 32, 1<<32 + 1, -1 << 32,
		math.MinInt, math.MinInt + 1, math.MaxInt - n, math.MaxInt - 1, math.MaxInt,
	}
}

// checkTree holds all that is told of one replica or place against the second
// reading.
func checkTree(t *testing.T, c impl.Conf, view, i int) {
	t.Helper()
	numbers := []struct {
		name      string
		got, want int
	}{
		{"Root", impl.Root(c, view), rootByWords(c, view)},
		{"Seat", impl.Seat(c, view, i), seatByWords(c, view, i)},
		{"Sits", impl.Sits(c, view, i), sitsByWords(c, view, i)},
		{"Up", impl.Up(c, view, i), upByWords(c, view, i)},
	}
	for _, n := range numbers {
		if n.got != n.want {
			t.Fatalf("%s(%v, %d, %d) = %d, want %d", n.name, c, view, i, n.got, n.want)
		}
	}
	lists := []struct {
		name      string
		got, want []int
	}{
		{"Kids", impl.Kids(c, view, i), kidsByWords(c, view, i)},
		{"Under", impl.Under(c, view, i), underByWords(c, view, i)},
		{"Way", impl.Way(c, view, i), wayByWords(c, view, i)},
	}
	for _, l := range lists {
		if !slices.Equal(l.got, l.want) {
			t.Fatalf("%s(%v, %d, %d) = %v, want %v", l.name, c, view, i, l.got, l.want)
		}
	}
}

// checkNoTree wants -1 and nothing of what is no replica, and no place either.
func checkNoTree(t *testing.T, c impl.Conf, view, i int) {
	t.Helper()
	if seat, sits, up := impl.Seat(c, view, i), impl.Sits(c, view, i), impl.Up(c, view, i); seat != -1 || sits != -1 || up != -1 {
		t.Fatalf("%v, view %d, %d: Seat %d, Sits %d, Up %d", c, view, i, seat, sits, up)
	}
	if kids, under, way := impl.Kids(c, view, i), impl.Under(c, view, i), impl.Way(c, view, i); len(kids)+len(under)+len(way) > 0 {
		t.Fatalf("%v, view %d, %d: Kids %v, Under %v, Way %v", c, view, i, kids, under, way)
	}
}

func TestRoot(t *testing.T) {
	cases := []struct {
		name string
		c    impl.Conf
		view int
		want int
	}{
		{"view 0", impl.Conf{N: 4, Fan: 2}, 0, 0},
		{"view 1", impl.Conf{N: 4, Fan: 2}, 1, 1},
		{"view N - 1", impl.Conf{N: 4, Fan: 2}, 3, 3},
		{"view N", impl.Conf{N: 4, Fan: 2}, 4, 0},
		{"view N + 1", impl.Conf{N: 4, Fan: 2}, 5, 1},
		{"view 0 of seven", impl.Conf{N: 7, Fan: 1}, 0, 0},
		{"view N - 1 of seven", impl.Conf{N: 7, Fan: 1}, 6, 6},
		{"view N of seven", impl.Conf{N: 7, Fan: 1}, 7, 0},
		{"view N + 1 of seven", impl.Conf{N: 7, Fan: 6}, 8, 1},
		{"another round", impl.Conf{N: 7, Fan: 2}, 9, 2},
		{"MaxView", impl.Conf{N: 7, Fan: 2}, impl.MaxView, 4},
		{"above MaxView", impl.Conf{N: 7, Fan: 2}, impl.MaxView + 1, 5},
		{"beyond 32 bits", impl.Conf{N: 5, Fan: 2}, 1 << 32, 1},
		{"the greatest int of four", impl.Conf{N: 4, Fan: 2}, math.MaxInt, 3},
		{"the greatest int of five", impl.Conf{N: 5, Fan: 2}, math.MaxInt, 2},
		{"the greatest int of six", impl.Conf{N: 6, Fan: 2}, math.MaxInt, 1},
		{"the greatest int of seven", impl.Conf{N: 7, Fan: 2}, math.MaxInt, 0},

		{"a view below 0", impl.Conf{N: 4, Fan: 2}, -1, -1},
		{"a view of -N", impl.Conf{N: 4, Fan: 2}, -4, -1},
		{"the least int", impl.Conf{N: 4, Fan: 2}, math.MinInt, -1},
		{"the least int of seven", impl.Conf{N: 7, Fan: 2}, math.MinInt, -1},
		{"N one too few", impl.Conf{N: 3, Fan: 2}, 0, -1},
		{"N one too many", impl.Conf{N: impl.MaxN + 1, Fan: 2}, 0, -1},
		{"Fan one too few", impl.Conf{N: 4, Fan: 0}, 0, -1},
		{"Fan one too many", impl.Conf{N: 4, Fan: 7}, 0, -1},
		{"the Conf zero", impl.Conf{}, 0, -1},
		{"N below 0", impl.Conf{N: -4, Fan: 2}, 1, -1},
		{"Fan below 0", impl.Conf{N: 4, Fan: -1}, 1, -1},
		{"both wrong", impl.Conf{}, -1, -1},
	}
	for _, c := range cases {
		if got := impl.Root(c.c, c.view); got != c.want {
			t.Errorf("%s: Root(%v, %d) = %d, want %d", c.name, c.c, c.view, got, c.want)
		}
		if got := rootByWords(c.c, c.view); got != c.want {
			t.Errorf("%s: the second reading is %d, want %d", c.name, got, c.want)
		}
	}
}

// TestEachIsRootInTurn goes through the views of several rounds, one by one.
func TestEachIsRootInTurn(t *testing.T) {
	for _, c := range rightConfs() {
		want := 0
		for view := range 5 * c.N {
			if got := impl.Root(c, view); got != want {
				t.Fatalf("Root(%v, %d) = %d, want %d", c, view, got, want)
			}
			if want++; want == c.N {
				want = 0
			}
		}
	}
}

func TestSeatAndSits(t *testing.T) {
	cases := []struct {
		name string
		c    impl.Conf
		view int
		want []int // who sits at each place
	}{
		{"view 0", impl.Conf{N: 4, Fan: 2}, 0, []int{0, 1, 2, 3}},
		{"view 1: behind the last one comes 0", impl.Conf{N: 4, Fan: 2}, 1, []int{1, 2, 3, 0}},
		{"view N - 1", impl.Conf{N: 4, Fan: 2}, 3, []int{3, 0, 1, 2}},
		{"view N", impl.Conf{N: 4, Fan: 2}, 4, []int{0, 1, 2, 3}},
		{"five, the next round", impl.Conf{N: 5, Fan: 1}, 7, []int{2, 3, 4, 0, 1}},
		{"six", impl.Conf{N: 6, Fan: 6}, 11, []int{5, 0, 1, 2, 3, 4}},
		{"seven", impl.Conf{N: 7, Fan: 2}, 9, []int{2, 3, 4, 5, 6, 0, 1}},
		{"the greatest int", impl.Conf{N: 5, Fan: 3}, math.MaxInt, []int{2, 3, 4, 0, 1}},
	}
	for _, c := range cases {
		for seat, who := range c.want {
			if got := impl.Sits(c.c, c.view, seat); got != who {
				t.Errorf("%s: Sits(%v, %d, %d) = %d, want %d", c.name, c.c, c.view, seat, got, who)
			}
			if got := impl.Seat(c.c, c.view, who); got != seat {
				t.Errorf("%s: Seat(%v, %d, %d) = %d, want %d", c.name, c.c, c.view, who, got, seat)
			}
		}
		if !slices.Equal(orderByWords(c.c, c.view), c.want) {
			t.Errorf("%s: the second reading is %v", c.name, orderByWords(c.c, c.view))
		}
	}
}

// TestSeatAndSitsAreInverse takes every replica and every place.
func TestSeatAndSitsAreInverse(t *testing.T) {
	for _, c := range rightConfs() {
		for _, view := range treeViews() {
			root := impl.Root(c, view)
			if impl.Sits(c, view, 0) != root || impl.Seat(c, view, root) != 0 {
				t.Fatalf("%v, view %d: root %d does not sit at place 0", c, view, root)
			}
			behindLast := impl.Seat(c, view, c.N-1) + 1
			if behindLast < c.N && impl.Sits(c, view, behindLast) != 0 {
				t.Fatalf("%v, view %d: behind the last replica comes %d", c, view, impl.Sits(c, view, behindLast))
			}
			for i := range c.N {
				seat, who := impl.Seat(c, view, i), impl.Sits(c, view, i)
				if seat < 0 || seat >= c.N || who < 0 || who >= c.N {
					t.Fatalf("%v, view %d: %d sits at %d, at place %d sits %d", c, view, i, seat, i, who)
				}
				if impl.Sits(c, view, seat) != i || impl.Seat(c, view, who) != i {
					t.Fatalf("%v, view %d: Seat and Sits of %d are not inverse", c, view, i)
				}
			}
		}
	}
}

func TestUp(t *testing.T) {
	// The order of view 9 of seven is 2 3 4 5 6 0 1.
	cases := []struct {
		fan  int
		want []int // of each replica, from 0 on
	}{
		{1, []int{6, 0, -1, 2, 3, 4, 5}},
		{2, []int{4, 4, -1, 2, 2, 3, 3}},
		{3, []int{3, 3, -1, 2, 2, 2, 3}},
		{4, []int{3, 3, -1, 2, 2, 2, 2}},
		{5, []int{2, 3, -1, 2, 2, 2, 2}},
		{6, []int{2, 2, -1, 2, 2, 2, 2}},
	}
	for _, c := range cases {
		conf := impl.Conf{N: 7, Fan: c.fan}
		for i, want := range c.want {
			if got := impl.Up(conf, 9, i); got != want {
				t.Errorf("Up(%v, 9, %d) = %d, want %d", conf, i, got, want)
			}
			if got := upByWords(conf, 9, i); got != want {
				t.Errorf("%v: the second reading of Up of %d is %d, want %d", conf, i, got, want)
			}
		}
	}
}

// TestUpIsWhoSitsThere asks for the place that the document names.
func TestUpIsWhoSitsThere(t *testing.T) {
	for _, c := range rightConfs() {
		for _, view := range treeViews() {
			if up := impl.Up(c, view, impl.Root(c, view)); up != -1 {
				t.Fatalf("%v, view %d: the root hands to %d", c, view, up)
			}
			for seat := 1; seat < c.N; seat++ {
				i := impl.Sits(c, view, seat)
				if got, want := impl.Up(c, view, i), impl.Sits(c, view, (seat-1)/c.Fan); got != want || want < 0 {
					t.Fatalf("Up(%v, %d, %d) = %d, want %d", c, view, i, got, want)
				}
			}
		}
	}
}

func TestKidsUnderWay(t *testing.T) {
	seven, chain, star := impl.Conf{N: 7, Fan: 2}, impl.Conf{N: 7, Fan: 1}, impl.Conf{N: 7, Fan: 6}
	all := []int{0, 1, 2, 3, 4, 5, 6}
	cases := []struct {
		name             string
		c                impl.Conf
		view, i          int
		kids, under, way []int
	}{
		{"the root", seven, 9, 2, []int{3, 4}, all, []int{2}},
		{"in the middle", seven, 9, 3, []int{5, 6}, []int{3, 5, 6}, []int{3, 2}},
		{"by number, not by place", seven, 9, 4, []int{0, 1}, []int{0, 1, 4}, []int{4, 2}},
		{"at the last place", seven, 9, 1, nil, []int{1}, []int{1, 4, 2}},
		{"the first with no kid", seven, 9, 5, nil, []int{5}, []int{5, 3, 2}},
		{"kids round the end", impl.Conf{N: 7, Fan: 2}, 5, 5, []int{0, 6}, all, []int{5}},
		{"kids round the end, in the middle", impl.Conf{N: 7, Fan: 3}, 9, 3, []int{0, 1, 6}, []int{0, 1, 3, 6}, []int{3, 2}},
		{"a chain, its root", chain, 3, 3, []int{4}, all, []int{3}},
		{"a chain, in the middle", chain, 3, 6, []int{0}, []int{0, 1, 2, 6}, []int{6, 5, 4, 3}},
		{"a chain, its end", chain, 3, 2, nil, []int{2}, []int{2, 1, 0, 6, 5, 4, 3}},
		{"a star, its root", star, 3, 3, []int{0, 1, 2, 4, 5, 6}, all, []int{3}},
		{"a star, another", star, 3, 0, nil, []int{0}, []int{0, 3}},
		{"one kid fewer than Fan", impl.Conf{N: 4, Fan: 2}, 0, 1, []int{3}, []int{1, 3}, []int{1, 0}},
		{"no kid left", impl.Conf{N: 4, Fan: 2}, 0, 2, nil, []int{2}, []int{2, 0}},
		{"Fan above N", impl.Conf{N: 4, Fan: 6}, 2, 2, []int{0, 1, 3}, []int{0, 1, 2, 3}, []int{2}},
		{"the greatest int", impl.Conf{N: 5, Fan: 2}, math.MaxInt, 3, []int{0, 1}, []int{0, 1, 3}, []int{3, 2}},

		{"the replica -1, whom the root does not hand to", seven, 9, -1, nil, nil, nil},
		{"the replica -1, at view 0", seven, 0, -1, nil, nil, nil},
		{"the replica N", seven, 9, 7, nil, nil, nil},
		{"the replica N + 1", seven, 9, 8, nil, nil, nil},
		{"the least int as replica", seven, 9, math.MinInt, nil, nil, nil},
		{"the greatest int as replica", seven, 9, math.MaxInt, nil, nil, nil},
		{"a replica of more of them", impl.Conf{N: 4, Fan: 2}, 9, 4, nil, nil, nil},
		{"a view below 0", seven, -1, 0, nil, nil, nil},
		{"a view below 0, the replica -1", seven, -1, -1, nil, nil, nil},
		{"a view of -N", seven, -7, 0, nil, nil, nil},
		{"the least int as view", seven, math.MinInt, 0, nil, nil, nil},
		{"N one too few", impl.Conf{N: 3, Fan: 2}, 0, 0, nil, nil, nil},
		{"N one too few, the replica -1", impl.Conf{N: 3, Fan: 2}, 0, -1, nil, nil, nil},
		{"N one too many", impl.Conf{N: 8, Fan: 2}, 0, 0, nil, nil, nil},
		{"Fan one too few", impl.Conf{N: 4, Fan: 0}, 0, 0, nil, nil, nil},
		{"Fan one too few, the replica -1", impl.Conf{N: 4, Fan: 0}, 0, -1, nil, nil, nil},
		{"Fan one too many", impl.Conf{N: 4, Fan: 7}, 0, 1, nil, nil, nil},
		{"the Conf zero", impl.Conf{}, 0, 0, nil, nil, nil},
		{"N beyond counting", impl.Conf{N: math.MaxInt, Fan: 2}, 0, -1, nil, nil, nil},
	}
	for _, c := range cases {
		if got := impl.Kids(c.c, c.view, c.i); !slices.Equal(got, c.kids) {
			t.Errorf("%s: Kids(%v, %d, %d) = %v, want %v", c.name, c.c, c.view, c.i, got, c.kids)
		}
		if got := impl.Under(c.c, c.view, c.i); !slices.Equal(got, c.under) {
			t.Errorf("%s: Under(%v, %d, %d) = %v, want %v", c.name, c.c, c.view, c.i, got, c.under)
		}
		if got := impl.Way(c.c, c.view, c.i); !slices.Equal(got, c.way) {
			t.Errorf("%s: Way(%v, %d, %d) = %v, want %v", c.name, c.c, c.view, c.i, got, c.way)
		}
		checkTree(t, c.c, c.view, c.i)
	}
}

func TestTreesAsTheWordsSay(t *testing.T) {
	for _, c := range allConfs() {
		places := append(viewsFrom(0, 9), noPlaces(c.N)...)
		if confOkByWords(c) {
			places = append(viewsFrom(0, c.N), noPlaces(c.N)...)
		}
		for _, view := range append([]int{0, 1, 4, 7, 9, math.MaxInt}, wrongViews()...) {
			for _, i := range places {
				checkTree(t, c, view, i)
			}
		}
	}
	for _, c := range rightConfs() {
		for _, view := range treeViews() {
			for i := range c.N {
				checkTree(t, c, view, i)
			}
		}
	}
}

// TestPlacesThatAreNone has a wrong one of Conf, view and place at a time, and
// all of them.
func TestPlacesThatAreNone(t *testing.T) {
	for _, c := range rightConfs() {
		for _, view := range treeViews() {
			for _, i := range noPlaces(c.N) {
				checkNoTree(t, c, view, i)
			}
		}
		for _, view := range wrongViews() {
			if root := impl.Root(c, view); root != -1 {
				t.Fatalf("Root(%v, %d) = %d", c, view, root)
			}
			for _, i := range append(viewsFrom(0, c.N), noPlaces(c.N)...) {
				checkNoTree(t, c, view, i)
			}
		}
	}
	for _, c := range wrongConfs() {
		for _, view := range append([]int{0, 1, 3, 4, 9, math.MaxInt}, wrongViews()...) {
			if root := impl.Root(c, view); root != -1 {
				t.Fatalf("Root(%v, %d) = %d", c, view, root)
			}
			for _, i := range append(viewsFrom(0, 9), noPlaces(7)...) {
				checkNoTree(t, c, view, i)
			}
		}
	}
}

// checkWay goes up one by one: each hands to the next, nobody is met twice.
func checkWay(t *testing.T, c impl.Conf, view, i int) {
	t.Helper()
	way := impl.Way(c, view, i)
	if len(way) == 0 || len(way) > c.N || way[0] != i {
		t.Fatalf("Way(%v, %d, %d) = %v", c, view, i, way)
	}
	if last := way[len(way)-1]; last != impl.Root(c, view) || last != rootByWords(c, view) || impl.Up(c, view, last) != -1 {
		t.Fatalf("Way(%v, %d, %d) = %v ends at %d, not at the root", c, view, i, way, last)
	}
	for at := 1; at < len(way); at++ {
		if impl.Up(c, view, way[at-1]) != way[at] || slices.Contains(way[:at], way[at]) {
			t.Fatalf("Way(%v, %d, %d) = %v goes wrong at %d", c, view, i, way, at)
		}
		if impl.Seat(c, view, way[at]) >= impl.Seat(c, view, way[at-1]) {
			t.Fatalf("Way(%v, %d, %d) = %v does not go up at %d", c, view, i, way, at)
		}
	}
}

func TestEachWayEndsAtTheRoot(t *testing.T) {
	for _, c := range rightConfs() {
		for _, view := range append(treeViews(), viewsFrom(17, 50)...) {
			for i := range c.N {
				checkWay(t, c, view, i)
			}
			root := impl.Root(c, view)
			if way := impl.Way(c, view, root); !slices.Equal(way, []int{root}) {
				t.Fatalf("%v, view %d: the root's way is %v", c, view, way)
			}
			if under := impl.Under(c, view, root); !slices.Equal(under, viewsFrom(0, c.N)) {
				t.Fatalf("%v, view %d: under the root are %v", c, view, under)
			}
		}
	}
}

// TestWhoIsUnderHasItOnItsWay holds Kids, Under, Up and Way against each other
// for each two replicas.
func TestWhoIsUnderHasItOnItsWay(t *testing.T) {
	for _, c := range rightConfs() {
		for _, view := range treeViews() {
			handed := 0
			for i := range c.N {
				kids, under := impl.Kids(c, view, i), impl.Under(c, view, i)
				if !setOkByWords(c.N, kids) || !setOkByWords(c.N, under) || len(kids) > c.Fan || len(under) <= len(kids) {
					t.Fatalf("%v, view %d, %d: kids %v, under %v", c, view, i, kids, under)
				}
				handed += len(kids)
				for j := range c.N {
					if slices.Contains(under, j) != slices.Contains(impl.Way(c, view, j), i) {
						t.Fatalf("%v, view %d: under %d are %v, but the way of %d is %v", c, view, i, under, j, impl.Way(c, view, j))
					}
					if slices.Contains(kids, j) != (impl.Up(c, view, j) == i) {
						t.Fatalf("%v, view %d: kids of %d are %v, but %d hands to %d", c, view, i, kids, j, impl.Up(c, view, j))
					}
				}
			}
			if handed != c.N-1 {
				t.Fatalf("%v, view %d: %d are kids", c, view, handed)
			}
		}
	}
}

// TestViewsOfOneRootHaveOneTree: only what is left of the view counts.
func TestViewsOfOneRootHaveOneTree(t *testing.T) {
	for _, c := range rightConfs() {
		for view := range c.N {
			later := view + c.N*12345678901
			for i := range c.N {
				alike := impl.Seat(c, view, i) == impl.Seat(c, later, i) && impl.Up(c, view, i) == impl.Up(c, later, i) &&
					slices.Equal(impl.Kids(c, view, i), impl.Kids(c, later, i)) && slices.Equal(impl.Way(c, view, i), impl.Way(c, later, i))
				if !alike {
					t.Fatalf("%v: views %d and %d differ at %d", c, view, later, i)
				}
			}
		}
	}
}

// TestTreesAreNewMemory writes into each answer, and into the room behind it
// (what goes in are numbers, of which a call has its own): no other answer may
// change.
func TestTreesAreNewMemory(t *testing.T) {
	lists := []struct {
		name string
		tell func(impl.Conf, int, int) []int
	}{
		{"Kids", impl.Kids}, {"Under", impl.Under}, {"Way", impl.Way},
	}
	for _, c := range rightConfs() {
		for _, l := range lists {
			for view := range c.N {
				var kept, want [][]int
				for i := -1; i <= c.N; i++ {
					kept = append(kept, l.tell(c, view, i), l.tell(c, view, i))
				}
				for _, list := range kept {
					want = append(want, slices.Clone(list))
				}
				for at, list := range kept {
					spoilInts(list[:cap(list)])
					for behind := at + 1; behind < len(kept); behind++ {
						if !slices.Equal(kept[behind], want[behind]) {
							t.Fatalf("%s of %v, view %d: two answers share memory", l.name, c, view)
						}
					}
				}
				for i := -1; i <= c.N; i++ {
					if got := l.tell(c, view, i); !slices.Equal(got, want[2*(i+1)]) {
						t.Fatalf("%s(%v, %d, %d) = %v behind a spoilt answer", l.name, c, view, i, got)
					}
				}
			}
		}
	}
}
