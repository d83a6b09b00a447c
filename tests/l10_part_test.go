package tests

import (
	"fmt"
	"math"
	"slices"
	"strings"
	"testing"

	"loop.example/g00448/impl"
)

func partOf(view int, name string, who ...int) impl.Part {
	return impl.Part{View: view, Name: name, Who: who}
}

func clonePart(p impl.Part) impl.Part {
	return impl.Part{View: p.View, Name: strings.Clone(p.Name), Who: slices.Clone(p.Who)}
}

func cloneParts(list []impl.Part) []impl.Part {
	var out []impl.Part
	for _, p := range list {
		out = append(out, clonePart(p))
	}
	return out
}

func samePart(a, b impl.Part) bool {
	return a.View == b.View && a.Name == b.Name && slices.Equal(a.Who, b.Who)
}

func sameParts(a, b []impl.Part) bool { return slices.EqualFunc(a, b, samePart) }

func partOkByWords(c impl.Conf, p impl.Part) bool {
	if !confOkByWords(c) || p.View < 1 || p.View > 60 {
		return false
	}
	if _, named := stepsByWords(p.Name); p.Name != "" && !(named && viewByWords(p.Name) == p.View) {
		return false
	}
	return len(p.Who) != 0 && setOkByWords(c.N, p.Who)
}

func partJoinByWords(a, b impl.Part) (impl.Part, bool) {
	if a.View != b.View || a.Name != b.Name {
		return impl.Part{}, false
	}
	return partOf(a.View, a.Name, setJoinByWords(a.Who, b.Who)...), true
}

func partQcByWords(c impl.Conf, p impl.Part) (impl.Qc, bool) {
	q := qcOf(p.View, p.Name, p.Who...)
	if !qcOkByWords(c, q) || q.View == 0 {
		return impl.Qc{}, false
	}
	return q, true
}

// bytesAscend holds two texts against each other byte by byte.
func bytesAscend(a, b string) bool {
	for i := 0; i < len(a) && i < len(b); i++ {
		if a[i] != b[i] {
			return a[i] < b[i]
		}
	}
	return len(a) < len(b)
}

// partsAscend is false of two of one View and Name, too.
func partsAscend(a, b impl.Part) bool {
	if a.View != b.View {
		return a.View < b.View
	}
	return bytesAscend(a.Name, b.Name)
}

// tableOkByWords holds every one against every other, not neighbours alone.
func tableOkByWords(c impl.Conf, list []impl.Part) bool {
	for i, p := range list {
		if i >= 20 || !partOkByWords(c, p) {
			return false
		}
		for _, ahead := range list[:i] {
			if !partsAscend(ahead, p) {
				return false
			}
		}
	}
	return true
}

// tableAddByWords joins p to each that it can be joined to, or tries it at every
// place: where one of these is a table, that is the answer.
func tableAddByWords(c impl.Conf, list []impl.Part, p impl.Part) ([]impl.Part, bool) {
	if !partOkByWords(c, p) {
		return list, false
	}
	var tries [][]impl.Part
	for i := range list {
		if joined, ok := partJoinByWords(list[i], p); ok {
			tries = append(tries, slices.Concat(list[:i], []impl.Part{joined}, list[i+1:]))
		}
	}
	if len(tries) == 0 {
		for i := range len(list) + 1 {
			tries = append(tries, slices.Concat(list[:i], []impl.Part{p}, list[i:]))
		}
	}
	for _, try := range tries {
		if tableOkByWords(c, try) {
			return try, true
		}
	}
	return list, false
}

func tableGetByWords(list []impl.Part, view int, name string) impl.Part {
	got := partOf(view, name)
	for i := len(list) - 1; i >= 0; i-- {
		if list[i].View == view && list[i].Name == name {
			got = list[i]
		}
	}
	return got
}

func tableDropByWords(list []impl.Part, view int) []impl.Part {
	var out []impl.Part
	for _, p := range list {
		if !(p.View < view) {
			out = append(out, p)
		}
	}
	return out
}

// longTable has one part more than a table may have: late ones and two names of
// each of some views, with room for others ahead of them, between and behind.
func longTable() []impl.Part {
	return []impl.Part{
		partOf(2, "", 0), partOf(2, "/1|/2|", 1), partOf(2, "/2|", 0, 1, 2),
		partOf(5, "", 3), partOf(5, "/2|/5|", 0, 3), partOf(5, "/5|0>1:5#0", 2),
		partOf(9, "", 0, 1), partOf(9, "/1|/9|", 2, 3), partOf(9, "/9|", 1),
		// By bytes a nought stands ahead of the mark behind a view.
		partOf(10, "", 1, 2, 3), partOf(10, "/10|", 0, 2), partOf(10, "/1|/10|", 0, 1, 2, 3),
		partOf(11, "", 2), partOf(11, "/11|", 3), partOf(11, "/1|/11|", 1, 3),
		partOf(30, "", 0, 1, 2, 3), partOf(30, "/29|/30|", 0), partOf(30, "/30|", 0, 1),
		partOf(59, "", 1), partOf(59, "/3|0>1:5#0,1>0:3#0/59|", 2), partOf(59, "/59|", 0, 1, 3),
	}
}

// fullTable has MaxParts of them.
func fullTable() []impl.Part { return longTable()[:20] }

func rightTables() [][]impl.Part {
	full := fullTable()
	return [][]impl.Part{
		nil,
		{},
		{partOf(1, "", 0)},
		{partOf(1, "/1|", 3)},
		{partOf(60, "/60|", 0, 1, 2, 3)},
		{partOf(1, "", 1), partOf(1, "/1|", 1)},
		{partOf(1, "", 1), partOf(2, "", 1), partOf(60, "", 1)},
		{partOf(3, "/1|/3|", 0, 1), partOf(3, "/2|/3|", 0, 1), partOf(3, "/3|", 0, 1)},
		{partOf(9, "/9|", 2), partOf(10, "/10|", 1), partOf(11, "", 0)},
		full[:1],
		full[:7],
		full[:19],
		full,
		full[1:20],
	}
}

// spoiltParts has, of a part, what is not PartOk of four replicas: a View, a
// name and a Who that is wrong, each at a time.
func spoiltParts(p impl.Part) []impl.Part {
	return []impl.Part{
		partOf(0, "", p.Who...), partOf(-p.View, p.Name, p.Who...), partOf(61, "", p.Who...),
		partOf(p.View, "/60|/61|", p.Who...), partOf(p.View, "/1", p.Who...), partOf(p.View, p.Name+"x", p.Who...),
		partOf(p.View, p.Name), partOf(p.View, p.Name, 1, 0), partOf(p.View, p.Name, 1, 1),
		partOf(p.View, p.Name, -1, 0), partOf(p.View, p.Name, 0, 4),
	}
}

// wrongTables has lists that are too long, that hold what is not PartOk first,
// in the middle and last, and each kind of order that is wrong at each place.
func wrongTables() [][]impl.Part {
	full := fullTable()
	out := [][]impl.Part{
		longTable(),
		append(longTable(), partOf(60, "", 0)),
		slices.Repeat([]impl.Part{partOf(1, "", 0)}, 40),
		{partOf(1, "/1|", 0), partOf(1, "", 0)},
		{partOf(2, "", 0), partOf(1, "", 0)},
		{partOf(2, "", 0), partOf(1, "/1|", 0)},
		{partOf(10, "/10|", 0), partOf(9, "/9|", 0)},
		{partOf(3, "/3|", 0), partOf(3, "/1|/3|", 0)},
		{partOf(10, "/1|/10|", 0), partOf(10, "/10|", 0)},
		{partOf(3, "/3|", 0), partOf(3, "/3|", 0)},
		{partOf(3, "/3|", 0), partOf(3, "/3|", 1)},
		{partOf(3, "", 0), partOf(3, "", 0)},
		{partOf(3, "", 0), partOf(3, "", 1)},
		{partOf(3, "", 0), partOf(3, "/3|", 0), partOf(3, "", 1)},
		{partOf(3, "", 0), partOf(4, "", 0), partOf(3, "", 1)},
	}
	for i := range full {
		for _, p := range spoiltParts(full[i]) {
			list := cloneParts(full)
			list[i] = p
			out = append(out, list)
		}
		for j := range i {
			turned, again := cloneParts(full), cloneParts(full)
			turned[i], turned[j] = turned[j], turned[i]
			again[i] = partOf(again[j].View, again[j].Name, 3)
			out = append(out, turned, again)
		}
	}
	for _, p := range spoiltParts(partOf(3, "/3|", 2)) {
		out = append(out, []impl.Part{p}, []impl.Part{partOf(2, "", 1), p}, []impl.Part{p, partOf(4, "", 1)})
	}
	return out
}

// addedParts has what is joined to one of those tables, what stands somewhere
// in them, and what is not PartOk.
func addedParts() []impl.Part {
	out := []impl.Part{
		partOf(1, "", 2), partOf(1, "/1|", 0, 3), partOf(60, "", 0), partOf(60, "/59|/60|", 1), partOf(60, "/60|", 2),
		partOf(3, "", 1), partOf(3, "/3|", 0, 2), partOf(3, "/1|/3|", 3), partOf(3, "/2|/3|", 0), partOf(4, "", 0, 1, 2, 3),
		partOf(2, "/2|0>1:5#0", 1), partOf(10, "/2|/10|", 1), partOf(20, "", 1, 2), partOf(59, "/59|0>1:5#0", 3),
		{}, partOf(0, "", 1), partOf(61, "", 1), partOf(61, "/61|", 1), partOf(-2, "", 1),
	}
	for _, at := range []int{0, 1, 10, 19, 20} {
		p := longTable()[at]
		out = append(out, partOf(p.View, p.Name, 0, 1), partOf(p.View, p.Name, 2, 3), p)
		out = append(out, spoiltParts(p)...)
	}
	return out
}

func TestPartLimits(t *testing.T) {
	if impl.MaxParts != 20 {
		t.Error(impl.MaxParts)
	}
}

func TestPartOk(t *testing.T) {
	four, seven := impl.Conf{N: 4, Fan: 2}, impl.Conf{N: 7, Fan: 6}
	full := nameByWords(chainOf(viewsFrom(1, 30)...))
	cases := []struct {
		name string
		c    impl.Conf
		p    impl.Part
		want bool
	}{
		{"a vote", four, partOf(3, "/2|0>1:5#0/3|", 0, 2), true},
		{"one who is late", four, partOf(3, "", 1), true},
		{"the first View", four, partOf(1, "/1|", 0), true},
		{"the first View, late", four, partOf(1, "", 0), true},
		{"MaxView", four, partOf(impl.MaxView, "/60|", 0), true},
		{"MaxView, late", four, partOf(impl.MaxView, "", 0), true},
		{"a name of MaxHeight", four, partOf(30, full, 0), true},
		{"the last replica alone", four, partOf(3, "/3|", 3), true},
		{"all", four, partOf(3, "/3|", 0, 1, 2, 3), true},
		{"all of seven", seven, partOf(3, "/3|", 0, 1, 2, 3, 4, 5, 6), true},
		{"all of seven, late", seven, partOf(3, "", 0, 1, 2, 3, 4, 5, 6), true},

		{"zero", four, impl.Part{}, false},
		{"View 0, late", four, partOf(0, "", 1), false},
		{"View 0, a name", four, partOf(0, "/1|", 1), false},
		{"View 0, a step 0", four, partOf(0, "/0|", 1), false},
		{"View 0, no name", four, partOf(0, "x", 1), false},
		{"View -1, late", four, partOf(-1, "", 1), false},
		{"View above MaxView, late", four, partOf(impl.MaxView+1, "", 1), false},
		{"View above MaxView, that of its text", four, partOf(impl.MaxView+1, "/61|", 1), false},
		{"View above MaxView, the last name", four, partOf(impl.MaxView+1, "/60|", 1), false},
		{"the least View", four, partOf(math.MinInt, "", 1), false},
		{"the greatest View", four, partOf(math.MaxInt, "", 1), false},
		{"the same low bits of View", four, partOf(1<<32+3, "/3|", 1), false},
		{"the same low bits of View, late", four, partOf(1<<32+3, "", 1), false},

		{"a name of a view below", four, partOf(3, "/2|", 1), false},
		{"a name of a view above", four, partOf(3, "/4|", 1), false},
		{"a name with that view further ahead", four, partOf(3, "/3|/4|", 1), false},
		{"half a step", four, partOf(3, "/3", 1), false},
		{"no name", four, partOf(3, "x", 1), false},
		{"a blank", four, partOf(3, " ", 1), false},
		{"start", four, partOf(3, "start", 1), false},
		{"a view with a nought ahead", four, partOf(3, "/03|", 1), false},
		{"a name that goes down", four, partOf(3, "/4|/3|", 1), false},
		{"a name one step too high", four, partOf(31, full+"/31|", 1), false},

		{"nobody", four, partOf(3, "/3|"), false},
		{"nobody, an empty list", four, impl.Part{View: 3, Name: "/3|", Who: []int{}}, false},
		{"nobody, late", four, partOf(3, ""), false},
		{"not ascending", four, partOf(3, "/3|", 1, 0), false},
		{"not ascending, late", four, partOf(3, "", 0, 2, 1), false},
		{"one twice", four, partOf(3, "/3|", 1, 1), false},
		{"one twice, late", four, partOf(3, "", 0, 1, 1, 2), false},
		{"the replica -1", four, partOf(3, "/3|", -1), false},
		{"the replica -1 ahead of others", four, partOf(3, "", -1, 0, 1), false},
		{"the replica N", four, partOf(3, "/3|", 4), false},
		{"the replica N behind others", four, partOf(3, "", 0, 1, 4), false},
		{"the replica N of seven", seven, partOf(3, "/3|", 7), false},
		{"the greatest int", four, partOf(3, "/3|", 0, math.MaxInt), false},
		{"the least int", four, partOf(3, "/3|", math.MinInt, 0), false},

		{"the Conf zero", impl.Conf{}, partOf(3, "/3|", 0), false},
		{"N one too few", impl.Conf{N: 3, Fan: 2}, partOf(3, "/3|", 0), false},
		{"N one too many", impl.Conf{N: 8, Fan: 2}, partOf(3, "/3|", 0), false},
		{"Fan one too few", impl.Conf{N: 4, Fan: 0}, partOf(3, "", 0), false},
		{"Fan one too many", impl.Conf{N: 4, Fan: 7}, partOf(3, "", 0), false},
	}
	for _, c := range cases {
		if got := impl.PartOk(c.c, c.p); got != c.want {
			t.Errorf("%s: PartOk(%v, %v) = %v", c.name, c.c, c.p, got)
		}
		if got := partOkByWords(c.c, c.p); got != c.want {
			t.Errorf("%s: the second reading is %v", c.name, got)
		}
	}
}

func TestPartOkAtEachView(t *testing.T) {
	c := impl.Conf{N: 4, Fan: 2}
	for view := -70; view <= 70; view++ {
		want := view >= 1 && view <= 60
		if got := impl.PartOk(c, partOf(view, "", 1)); got != want {
			t.Errorf("late in view %d: %v", view, got)
		}
		for named := range 63 {
			name := fmt.Sprintf("/%d|", named)
			if got := impl.PartOk(c, partOf(view, name, 1)); got != (want && view == named) {
				t.Errorf("%s in view %d: %v", name, view, got)
			}
		}
	}
}

func TestPartOkOfEachSetAndConf(t *testing.T) {
	for _, c := range allConfs() {
		for bits := range 1 << 8 {
			who := setOfBits(bits)
			want := confOkByWords(c) && bits != 0 && bits < 1<<c.N
			if late, vote := impl.PartOk(c, partOf(7, "", who...)), impl.PartOk(c, partOf(7, "/7|", who...)); late != want || vote != want {
				t.Fatalf("%v, %v: %v late, %v with a name, want %v", c, who, late, vote, want)
			}
		}
	}
}

// nearParts has parts with right and wrong views, names and lists.
func nearParts() []impl.Part {
	var out []impl.Part
	for _, q := range nearQcs(append(qcNames()[:8], "/", "x", "/0|", "/61|", "/3|/2|"), append(qcLists(), []int{0}, []int{3}, []int{1, 3})) {
		out = append(out, impl.Part(q))
	}
	for _, view := range []int{1, 3, 60, 61, math.MinInt, math.MaxInt} {
		for _, who := range qcLists() {
			out = append(out, partOf(view, "", who...))
		}
	}
	return out
}

func TestPartsAsTheWordsSay(t *testing.T) {
	certified, right := 0, 0
	for _, p := range nearParts() {
		for n := 3; n <= 8; n++ {
			for _, fan := range []int{0, 1, 6} {
				c := impl.Conf{N: n, Fan: fan}
				ok := partOkByWords(c, p)
				if got := impl.PartOk(c, p); got != ok {
					t.Fatalf("PartOk(%v, %v) = %v", c, p, got)
				}
				want, enough := partQcByWords(c, p)
				if got, told := impl.PartQc(c, p); told != enough || !sameQc(got, want) {
					t.Fatalf("PartQc(%v, %v) = %v, %v, want %v, %v", c, p, got, told, want, enough)
				}
				if ok {
					right++
				}
				if enough {
					certified++
				}
			}
		}
	}
	if right < 100 || certified < 50 {
		t.Errorf("%d alone are right, %d are certified", right, certified)
	}
}

func TestPartsOfWhatIsNoName(t *testing.T) {
	c := impl.Conf{N: 4, Fan: 2}
	for _, name := range wrongNames() {
		for _, view := range []int{0, 1, 2, 3, 60, 61} {
			p := partOf(view, name, 0, 1, 2, 3)
			if q, ok := impl.PartQc(c, p); impl.PartOk(c, p) || ok || !sameQc(q, impl.Qc{}) {
				t.Fatalf("%v: PartOk, or PartQc is %v, %v", p, q, ok)
			}
		}
	}
}

func TestPartJoin(t *testing.T) {
	cases := []struct {
		name string
		a, b impl.Part
		want []int // who is joined; nil where the parts can't be
	}{
		{"nobody in common", partOf(3, "/3|", 0), partOf(3, "/3|", 1, 2), []int{0, 1, 2}},
		{"nobody in common, one between two", partOf(3, "/3|", 0, 3), partOf(3, "/3|", 1, 2), []int{0, 1, 2, 3}},
		{"some in common", partOf(3, "/3|", 0, 1), partOf(3, "/3|", 1, 2), []int{0, 1, 2}},
		{"all in common", partOf(3, "/3|", 0, 1), partOf(3, "/3|", 0, 1), []int{0, 1}},
		{"the one has all of the other", partOf(3, "/3|", 0, 1, 2, 3), partOf(3, "/3|", 2), []int{0, 1, 2, 3}},
		{"both empty names", partOf(3, "", 2), partOf(3, "", 0), []int{0, 2}},
		{"nobody beside somebody", partOf(3, "/3|"), partOf(3, "/3|", 1), []int{1}},
		{"nobody at all", partOf(3, "/3|"), partOf(3, "/3|"), []int{}},
		{"both zero", impl.Part{}, impl.Part{}, []int{}},
		{"no views", partOf(-7, "", 1), partOf(-7, "", 0), []int{0, 1}},
		{"the least view", partOf(math.MinInt, "", 1), partOf(math.MinInt, "", 0), []int{0, 1}},
		{"no names", partOf(3, "x", 1), partOf(3, "x", 0), []int{0, 1}},
		{"a view that is not the name's", partOf(4, "/3|", 1), partOf(4, "/3|", 0), []int{0, 1}},
		{"lists that are no sets", partOf(3, "/3|", 9, 1, 9), partOf(3, "/3|", 5, -1, 5), []int{-1, 1, 5, 9}},
		{"a list that is no set beside nobody", partOf(3, "/3|", 3, 1, 2, 1), partOf(3, "/3|"), []int{1, 2, 3}},
		{"far numbers", partOf(3, "", math.MaxInt, 0), partOf(3, "", math.MinInt), []int{math.MinInt, 0, math.MaxInt}},

		{"another View", partOf(3, "", 0), partOf(4, "", 1), nil},
		{"another View of one Name", partOf(3, "/3|", 0), partOf(4, "/3|", 1), nil},
		{"the same low bits of View", partOf(3, "", 0), partOf(1<<32+3, "", 1), nil},
		{"the least and the greatest View", partOf(math.MinInt, "", 0), partOf(math.MaxInt, "", 0), nil},
		{"another Name", partOf(3, "/3|", 0), partOf(3, "/1|/3|", 1), nil},
		{"a Name that goes on", partOf(3, "/3|", 0), partOf(3, "/3|0>1:5#0", 1), nil},
		{"an empty name beside one that is not", partOf(3, "", 0), partOf(3, "/3|", 1), nil},
		{"an empty name beside a byte 0", partOf(3, "", 0), partOf(3, "\x00", 1), nil},
		{"both of another", partOf(3, "/3|", 0), partOf(4, "/4|", 0), nil},
		{"the same Who", partOf(3, "/3|", 0, 1), partOf(3, "", 0, 1), nil},
		{"nobody in either", partOf(3, "/3|"), partOf(3, ""), nil},
	}
	for _, c := range cases {
		for _, pair := range [][2]impl.Part{{c.a, c.b}, {c.b, c.a}} {
			want := impl.Part{}
			if c.want != nil {
				want = partOf(c.a.View, c.a.Name, c.want...)
			}
			if got, ok := impl.PartJoin(pair[0], pair[1]); ok != (c.want != nil) || !samePart(got, want) {
				t.Errorf("%s: PartJoin(%v, %v) = %v, %v, want %v", c.name, pair[0], pair[1], got, ok, want)
			}
		}
	}
}

// pairParts has parts that differ from each other in little, right ones and
// wrong ones.
func pairParts() []impl.Part {
	var out []impl.Part
	for _, q := range pairQcs() {
		out = append(out, impl.Part(q))
	}
	return append(out,
		partOf(3, "", 2), partOf(3, "", 1, 3), partOf(3, "", 3, 1, 3), partOf(3, ""), partOf(3, "/3|", 3), partOf(3, "/3|", 9, -1, 2, 2),
		partOf(4, "", 2), partOf(4, "/4|", 2), partOf(4, "/3|/4|", 2), partOf(3, "\x00", 2), partOf(3, "/3|\x00", 2),
	)
}

func TestPartJoinAsTheWordsSay(t *testing.T) {
	joined := 0
	for _, a := range pairParts() {
		for _, b := range pairParts() {
			want, wantOk := partJoinByWords(a, b)
			got, ok := impl.PartJoin(a, b)
			if ok != wantOk || !samePart(got, want) {
				t.Fatalf("PartJoin(%v, %v) = %v, %v, want %v, %v", a, b, got, ok, want, wantOk)
			}
			if turned, too := impl.PartJoin(b, a); too != ok || !samePart(got, turned) {
				t.Fatalf("PartJoin(%v, %v) = %v, but %v the other way round", a, b, got, turned)
			}
			if ok {
				joined++
			}
		}
	}
	if joined < 50 {
		t.Errorf("%d pairs alone were joined", joined)
	}
	for _, a := range allLists() {
		for _, b := range oddLists() {
			want := setJoinByWords(a, b)
			if got, ok := impl.PartJoin(partOf(3, "", a...), partOf(3, "", b...)); !ok || !slices.Equal(got.Who, want) {
				t.Fatalf("%v and %v are joined to %v, %v", a, b, got, ok)
			}
		}
	}
}

// TestEachTwoSetsAreJoinedBothWays takes all sets of seven; what is joined of
// three does not hang on which two come first.
func TestEachTwoSetsAreJoinedBothWays(t *testing.T) {
	c := impl.Conf{N: 7, Fan: 2}
	third := partOf(8, "/2|/8|", 1, 4)
	for i := 1; i < 1<<7; i++ {
		for j := 1; j < 1<<7; j++ {
			a, b := partOf(8, "/2|/8|", setOfBits(i)...), partOf(8, "/2|/8|", setOfBits(j)...)
			ab, _ := impl.PartJoin(a, b)
			ba, _ := impl.PartJoin(b, a)
			if !samePart(ab, ba) || !slices.Equal(ab.Who, setOfBits(i|j)) || !impl.PartOk(c, ab) {
				t.Fatalf("%v and %v: %v, and %v the other way round", a, b, ab, ba)
			}
			bt, _ := impl.PartJoin(b, third)
			left, _ := impl.PartJoin(ab, third)
			right, _ := impl.PartJoin(a, bt)
			if !samePart(left, right) {
				t.Fatalf("%v, %v and %v: %v or %v", a, b, third, left, right)
			}
		}
	}
}

func TestPartQc(t *testing.T) {
	four, seven := impl.Conf{N: 4, Fan: 2}, impl.Conf{N: 7, Fan: 2}
	cases := []struct {
		name string
		c    impl.Conf
		p    impl.Part
		want bool
	}{
		{"a quorum", four, partOf(3, "/2|0>1:5#0/3|", 0, 1, 3), true},
		{"one fewer", four, partOf(3, "/2|0>1:5#0/3|", 0, 1), false},
		{"all", four, partOf(3, "/3|", 0, 1, 2, 3), true},
		{"a quorum of seven", seven, partOf(3, "/3|", 0, 2, 3, 5, 6), true},
		{"one fewer of seven", seven, partOf(3, "/3|", 0, 2, 3, 6), false},
		{"a quorum of four is too few of five", impl.Conf{N: 5, Fan: 2}, partOf(3, "/3|", 0, 2, 3), false},
		{"the first View", four, partOf(1, "/1|", 1, 2, 3), true},
		{"MaxView", four, partOf(60, "/60|", 1, 2, 3), true},

		{"nobody", four, partOf(3, "/3|"), false},
		{"the beginning", four, impl.Part{}, false},
		{"the beginning, an empty list", four, impl.Part{Who: []int{}}, false},
		{"the beginning, a quorum", four, partOf(0, "", 0, 1, 2), false},
		{"an empty name, nobody", four, partOf(3, ""), false},
		{"an empty name, a quorum", four, partOf(3, "", 0, 1, 2), false},
		{"an empty name, all", four, partOf(3, "", 0, 1, 2, 3), false},
		{"an empty name of seven, all", seven, partOf(3, "", 0, 1, 2, 3, 4, 5, 6), false},
		{"a View below the name's", four, partOf(2, "/3|", 0, 1, 2), false},
		{"a View above the name's", four, partOf(4, "/3|", 0, 1, 2), false},
		{"View 0", four, partOf(0, "/3|", 0, 1, 2), false},
		{"a View below 0", four, partOf(-3, "/3|", 0, 1, 2), false},
		{"the same low bits of View", four, partOf(1<<32+3, "/3|", 0, 1, 2), false},
		{"above MaxView", four, partOf(61, "/61|", 0, 1, 2), false},
		{"no name", four, partOf(3, "/3", 0, 1, 2), false},
		{"no name, View 0", four, partOf(0, "x", 0, 1, 2), false},
		{"not ascending", four, partOf(3, "/3|", 0, 2, 1), false},
		{"one twice", four, partOf(3, "/3|", 0, 1, 1), false},
		{"one twice, enough others", four, partOf(3, "/3|", 0, 1, 2, 2), false},
		{"the replica -1, enough others", four, partOf(3, "/3|", -1, 0, 1, 2), false},
		{"the replica N, enough others", four, partOf(3, "/3|", 0, 1, 2, 4), false},
		{"N one too few", impl.Conf{N: 3, Fan: 2}, partOf(3, "/3|", 0, 1, 2), false},
		{"N one too many", impl.Conf{N: 8, Fan: 2}, partOf(3, "/3|", 0, 1, 2, 3, 4, 5, 6, 7), false},
		{"Fan one too few", impl.Conf{N: 4, Fan: 0}, partOf(3, "/3|", 0, 1, 2), false},
		{"Fan one too many", impl.Conf{N: 4, Fan: 7}, partOf(3, "/3|", 0, 1, 2), false},
		{"the Conf zero", impl.Conf{}, partOf(3, "/3|", 0, 1, 2), false},
		{"the Conf zero, the beginning", impl.Conf{}, impl.Part{}, false},
	}
	for _, c := range cases {
		want := impl.Qc{}
		if c.want {
			want = qcOf(c.p.View, c.p.Name, c.p.Who...)
		}
		if got, ok := impl.PartQc(c.c, c.p); ok != c.want || !sameQc(got, want) || ok && !impl.QcOk(c.c, got) {
			t.Errorf("%s: PartQc(%v, %v) = %v, %v, want %v", c.name, c.c, c.p, got, ok, want)
		}
	}
}

func TestPartQcOfEachSet(t *testing.T) {
	for _, c := range rightConfs() {
		for bits := range 1 << c.N {
			vote, late := partOf(5, "/2|/5|", setOfBits(bits)...), partOf(5, "", setOfBits(bits)...)
			want := len(vote.Who) >= enoughOf(c.N)
			if q, ok := impl.PartQc(c, vote); ok != want || ok && !samePart(impl.Part(q), vote) {
				t.Fatalf("PartQc(%v, %v) = %v, %v", c, vote, q, ok)
			}
			if q, ok := impl.PartQc(c, late); ok || !sameQc(q, impl.Qc{}) {
				t.Fatalf("PartQc(%v, %v) = %v, %v", c, late, q, ok)
			}
		}
	}
}

func TestTableOk(t *testing.T) {
	c := impl.Conf{N: 4, Fan: 2}
	for _, list := range rightTables() {
		if !impl.TableOk(c, list) {
			t.Errorf("TableOk(%v) is false", list)
		}
	}
	for _, list := range wrongTables() {
		if impl.TableOk(c, list) {
			t.Errorf("TableOk(%v) is true", list)
		}
	}
	for _, c := range wrongConfs() {
		// Of nothing there is no part that would not be PartOk.
		for _, list := range rightTables() {
			if got := impl.TableOk(c, list); got != (len(list) == 0) {
				t.Errorf("TableOk(%v, %v) = %v", c, list, got)
			}
		}
	}
}

func TestTableOkAtEachLength(t *testing.T) {
	c := impl.Conf{N: 4, Fan: 2}
	var late, votes []impl.Part
	for n := range 50 {
		if impl.TableOk(c, late) != (n <= 20) || impl.TableOk(c, votes) != (n <= 20) {
			t.Errorf("%d parts: %v late, %v with names", n, impl.TableOk(c, late), impl.TableOk(c, votes))
		}
		late = append(late, partOf(n+1, "", 2))
		votes = append(votes, partOf(60, fmt.Sprintf("/%d|/60|", n+10), 2))
	}
}

// shortTables has all lists of at most three of some parts; two of these are not
// PartOk of four.
func shortTables() [][]impl.Part {
	some := []impl.Part{
		partOf(1, "", 0), partOf(1, "/1|", 1), partOf(9, "", 2), partOf(9, "/9|", 3), partOf(9, "/1|/9|", 0, 1),
		partOf(10, "/10|", 1), partOf(10, "/1|/10|", 2), partOf(9, "/9|", 2, 1), partOf(10, "/9|", 1),
	}
	out := [][]impl.Part{nil}
	for from := 0; len(out[from]) < 3; from++ {
		for _, p := range some {
			out = append(out, append(slices.Clone(out[from]), p))
		}
	}
	return out
}

func allTables() [][]impl.Part { return slices.Concat(rightTables(), wrongTables(), shortTables()) }

func TestTableOkAsTheWordsSay(t *testing.T) {
	right := 0
	for _, list := range allTables() {
		for _, c := range []impl.Conf{{N: 4, Fan: 2}, {N: 7, Fan: 1}, {N: 3, Fan: 2}, {N: 4, Fan: 7}} {
			want := tableOkByWords(c, list)
			if got := impl.TableOk(c, list); got != want {
				t.Fatalf("TableOk(%v, %v) = %v", c, list, got)
			}
			if want {
				right++
			}
		}
	}
	if right < 100 {
		t.Errorf("%d lists alone are right", right)
	}
}

func TestTableAdd(t *testing.T) {
	c := impl.Conf{N: 4, Fan: 2}
	a, b, d := partOf(3, "", 1), partOf(5, "/2|/5|", 0, 2), partOf(5, "/5|", 3)
	list := []impl.Part{a, b, d}
	cases := []struct {
		name string
		list []impl.Part
		p    impl.Part
		want []impl.Part
	}{
		{"into nothing", nil, b, []impl.Part{b}},
		{"into an empty list", []impl.Part{}, a, []impl.Part{a}},
		{"joined to the first", list, partOf(3, "", 0, 3), []impl.Part{partOf(3, "", 0, 1, 3), b, d}},
		{"joined in the middle", list, partOf(5, "/2|/5|", 1, 2), []impl.Part{a, partOf(5, "/2|/5|", 0, 1, 2), d}},
		{"joined to the last", list, partOf(5, "/5|", 0, 1, 2), []impl.Part{a, b, partOf(5, "/5|", 0, 1, 2, 3)}},
		{"joined, all in common", list, partOf(5, "/2|/5|", 2), list},
		{"the same again", list, b, list},
		{"at the beginning, by View", list, partOf(2, "/2|", 0), []impl.Part{partOf(2, "/2|", 0), a, b, d}},
		{"at the beginning, the first View", list, partOf(1, "", 0), []impl.Part{partOf(1, "", 0), a, b, d}},
		{"in the middle, by View", list, partOf(4, "", 0), []impl.Part{a, partOf(4, "", 0), b, d}},
		{"in the middle, behind one with no name", list, partOf(3, "/3|", 0), []impl.Part{a, partOf(3, "/3|", 0), b, d}},
		{"in the middle, ahead of names", list, partOf(5, "", 0), []impl.Part{a, partOf(5, "", 0), b, d}},
		{"in the middle, between names", list, partOf(5, "/3|/5|", 0), []impl.Part{a, b, partOf(5, "/3|/5|", 0), d}},
		{"at the end, by Name", list, partOf(5, "/5|0>1:5#0", 0), []impl.Part{a, b, d, partOf(5, "/5|0>1:5#0", 0)}},
		{"at the end, by View, though not by Name", list, partOf(60, "", 0), []impl.Part{a, b, d, partOf(60, "", 0)}},
		{"by View, not by its digits", []impl.Part{partOf(9, "/9|", 0)}, partOf(10, "/10|", 0), []impl.Part{partOf(9, "/9|", 0), partOf(10, "/10|", 0)}},
		{"by bytes, not by steps", []impl.Part{partOf(10, "/1|/10|", 0)}, partOf(10, "/10|", 1), []impl.Part{partOf(10, "/10|", 1), partOf(10, "/1|/10|", 0)}},
		{"joined to one that has nobody", []impl.Part{partOf(5, "/5|")}, d, []impl.Part{d}},
		{"joined to one that is no set", []impl.Part{a, partOf(5, "/5|", 2, 1, 2)}, d, []impl.Part{a, partOf(5, "/5|", 1, 2, 3)}},
	}
	for _, k := range cases {
		if got, ok := impl.TableAdd(c, k.list, k.p); !ok || !sameParts(got, k.want) || !impl.TableOk(c, got) {
			t.Errorf("%s: TableAdd(%v, %v) = %v, %v, want %v", k.name, k.list, k.p, got, ok, k.want)
		}
		if got, ok := tableAddByWords(c, k.list, k.p); !ok || !sameParts(got, k.want) {
			t.Errorf("%s: the second reading is %v, %v", k.name, got, ok)
		}
	}
}

func TestTableAddRefuses(t *testing.T) {
	four := impl.Conf{N: 4, Fan: 2}
	a, b := partOf(3, "", 1), partOf(5, "/5|", 0, 2)
	list := []impl.Part{a, b}
	cases := []struct {
		name string
		c    impl.Conf
		list []impl.Part
		p    impl.Part
	}{
		{"zero", four, list, impl.Part{}},
		{"zero, into nothing", four, nil, impl.Part{}},
		{"nobody", four, list, partOf(4, "")},
		{"nobody, to be joined", four, list, partOf(5, "/5|")},
		{"no set, that would be one joined", four, list, partOf(5, "/5|", 3, 1)},
		{"one twice, that would be a set joined", four, list, partOf(5, "/5|", 0, 0)},
		{"the replica N, to be joined", four, list, partOf(5, "/5|", 4)},
		{"the replica -1", four, list, partOf(4, "", -1)},
		{"a name of another view", four, list, partOf(4, "/5|", 1)},
		{"no name", four, list, partOf(4, "x", 1)},
		{"View 0", four, list, partOf(0, "", 1)},
		{"above MaxView", four, list, partOf(61, "", 1)},
		{"a replica of seven", four, list, partOf(4, "", 6)},
		{"the Conf zero", impl.Conf{}, list, b},
		{"the Conf zero, into nothing", impl.Conf{}, nil, b},
		{"N one too few", impl.Conf{N: 3, Fan: 2}, list, b},
		{"N one too many", impl.Conf{N: 8, Fan: 2}, list, b},
		{"Fan one too few", impl.Conf{N: 4, Fan: 0}, list, b},
		{"Fan one too many", impl.Conf{N: 4, Fan: 7}, list, b},

		{"out of order, to be joined", four, []impl.Part{b, a}, b},
		{"out of order, not to be joined", four, []impl.Part{b, a}, partOf(4, "", 1)},
		{"two of one View and Name, to be joined", four, []impl.Part{a, a, b}, a},
		{"two of one View and Name, not to be joined", four, []impl.Part{a, a, b}, partOf(4, "", 1)},
		{"one with nobody, another to be joined", four, []impl.Part{a, partOf(5, "/5|")}, a},
		{"one that is no set, another to be joined", four, []impl.Part{a, partOf(5, "/5|", 1, 0)}, a},
		{"one that is no set, none to be joined", four, []impl.Part{a, partOf(5, "/5|", 1, 0)}, partOf(4, "", 1)},
		{"the replica N in what it is joined to", four, []impl.Part{partOf(5, "/5|", 4)}, b},
		{"the replica -1 in what it is joined to", four, []impl.Part{partOf(5, "/5|", -1, 0)}, b},
		{"no name beside it", four, []impl.Part{a, partOf(4, "x", 1)}, b},
		{"View 0 beside it", four, []impl.Part{partOf(0, "", 1), a}, b},
	}
	for _, k := range cases {
		if got, ok := impl.TableAdd(k.c, k.list, k.p); ok || !sameParts(got, k.list) {
			t.Errorf("%s: TableAdd(%v, %v, %v) = %v, %v, want it as it was", k.name, k.c, k.list, k.p, got, ok)
		}
		if _, ok := tableAddByWords(k.c, k.list, k.p); ok {
			t.Errorf("%s: the second reading is true", k.name)
		}
	}
}

func TestTableAddFillsATable(t *testing.T) {
	c := impl.Conf{N: 4, Fan: 2}
	full := fullTable()
	for i, p := range full {
		less := slices.Concat(full[:i], full[i+1:])
		if got, ok := impl.TableAdd(c, less, p); !ok || !sameParts(got, full) {
			t.Errorf("place %d: TableAdd = %v, %v", i, got, ok)
		}
		want := cloneParts(full)
		want[i].Who = []int{0, 1, 2, 3}
		if got, ok := impl.TableAdd(c, full, partOf(p.View, p.Name, 0, 1, 2, 3)); !ok || !sameParts(got, want) {
			t.Errorf("place %d of a full table: TableAdd = %v, %v", i, got, ok)
		}
	}
	for _, p := range []impl.Part{longTable()[20], partOf(1, "", 0), partOf(2, "/2|0>1:5#0", 0), partOf(20, "", 1), partOf(60, "/60|", 3), {}} {
		if got, ok := impl.TableAdd(c, full, p); ok || !sameParts(got, full) {
			t.Errorf("%v into a full table: %v, %v", p, got, ok)
		}
	}
	long := longTable()
	for _, p := range append(cloneParts(long), partOf(1, "", 0), partOf(60, "", 0)) {
		if got, ok := impl.TableAdd(c, long, p); ok || !sameParts(got, long) {
			t.Errorf("%v into one that has too many: %v, %v", p, got, ok)
		}
	}
}

func TestTableAddAsTheWordsSay(t *testing.T) {
	c := impl.Conf{N: 4, Fan: 2}
	added, joined, mended := 0, 0, 0
	for _, list := range allTables() {
		for _, p := range addedParts() {
			want, wantOk := tableAddByWords(c, list, p)
			got, ok := impl.TableAdd(c, list, p)
			if ok != wantOk || !sameParts(got, want) {
				t.Fatalf("TableAdd(%v, %v) = %v, %v, want %v, %v", list, p, got, ok, want, wantOk)
			}
			switch {
			case ok && len(got) > len(list):
				added++
			case ok && impl.TableOk(c, list):
				joined++
			case ok:
				mended++
			}
		}
	}
	if added < 100 || joined < 50 || mended < 5 {
		t.Errorf("%d were added, %d joined, %d to what was not right", added, joined, mended)
	}
}

// orders has all orders of so many.
func orders(many int) [][]int {
	out := [][]int{nil}
	for next := range many {
		var longer [][]int
		for _, order := range out {
			for at := range len(order) + 1 {
				longer = append(longer, slices.Insert(slices.Clone(order), at, next))
			}
		}
		out = longer
	}
	return out
}

// TestWhatIsJoinedInAnyOrderIsTheSame adds in every order; what is refused is so
// wherever it comes, and turns nothing.
func TestWhatIsJoinedInAnyOrderIsTheSame(t *testing.T) {
	c := impl.Conf{N: 4, Fan: 2}
	cases := []struct {
		name  string
		parts []impl.Part
		want  []impl.Part
	}{
		{"the votes of one block", []impl.Part{partOf(5, "/5|", 2), partOf(5, "/5|", 0), partOf(5, "/5|", 3), partOf(5, "/5|", 1)},
			[]impl.Part{partOf(5, "/5|", 0, 1, 2, 3)}},
		{"some that come twice", []impl.Part{partOf(5, "/5|", 0, 2), partOf(5, "/5|", 2), partOf(5, "/5|", 1, 2), partOf(5, "/5|", 1, 2)},
			[]impl.Part{partOf(5, "/5|", 0, 1, 2)}},
		{"late ones and votes", []impl.Part{partOf(5, "", 1), partOf(5, "/5|", 1), partOf(5, "", 0), partOf(5, "/5|", 0, 3)},
			[]impl.Part{partOf(5, "", 0, 1), partOf(5, "/5|", 0, 1, 3)}},
		{"of several views and names", []impl.Part{partOf(10, "/1|/10|", 0), partOf(9, "/9|", 1), partOf(10, "/10|", 2), partOf(10, "", 3), partOf(9, "/9|", 0), partOf(10, "/10|", 1)},
			[]impl.Part{partOf(9, "/9|", 0, 1), partOf(10, "", 3), partOf(10, "/10|", 1, 2), partOf(10, "/1|/10|", 0)}},
		{"some that are refused", []impl.Part{partOf(5, "/5|", 2), partOf(5, "/5|", 4), partOf(5, "/5|", 1, 0), partOf(5, "/4|", 0), partOf(5, "/5|", 3), partOf(5, "")},
			[]impl.Part{partOf(5, "/5|", 2, 3)}},
	}
	for _, k := range cases {
		for _, order := range orders(len(k.parts)) {
			var list []impl.Part
			for _, at := range order {
				var ok bool
				if list, ok = impl.TableAdd(c, list, k.parts[at]); ok != partOkByWords(c, k.parts[at]) || !impl.TableOk(c, list) {
					t.Fatalf("%s, in the order %v: %v at %d, table %v", k.name, order, ok, at, list)
				}
			}
			if !sameParts(list, k.want) {
				t.Fatalf("%s, in the order %v: %v, want %v", k.name, order, list, k.want)
			}
		}
	}
}

// TestPartsJoinedInAnyOrderAreTheSame joins without a table; the certificate of
// it is one, too.
func TestPartsJoinedInAnyOrderAreTheSame(t *testing.T) {
	c := impl.Conf{N: 7, Fan: 2}
	parts := []impl.Part{partOf(8, "/2|/8|", 6), partOf(8, "/2|/8|", 0, 3), partOf(8, "/2|/8|", 3, 4), partOf(8, "/2|/8|", 4, 6), partOf(8, "/2|/8|", 1)}
	for _, order := range orders(len(parts)) {
		joined := parts[order[0]]
		for _, at := range order[1:] {
			var ok bool
			if joined, ok = impl.PartJoin(joined, parts[at]); !ok {
				t.Fatalf("the order %v: false at %d", order, at)
			}
		}
		q, ok := impl.PartQc(c, joined)
		if !ok || !sameQc(q, qcOf(8, "/2|/8|", 0, 1, 3, 4, 6)) {
			t.Fatalf("the order %v: %v, %v of %v", order, q, ok, joined)
		}
	}
}

// TestAFullTableInAnyOrder adds the votes of a full table one replica at a time,
// by strides.
func TestAFullTableInAnyOrder(t *testing.T) {
	c := impl.Conf{N: 4, Fan: 2}
	var votes []impl.Part
	for _, p := range fullTable() {
		for _, i := range p.Who {
			votes = append(votes, partOf(p.View, p.Name, i))
		}
	}
	for stride := 1; stride < len(votes); stride++ {
		var list []impl.Part
		for first := range stride {
			for at := first; at < len(votes); at += stride {
				var ok bool
				if list, ok = impl.TableAdd(c, list, votes[at]); !ok {
					t.Fatalf("stride %d: %v is refused", stride, votes[at])
				}
			}
		}
		if !sameParts(list, fullTable()) {
			t.Fatalf("stride %d: %v", stride, list)
		}
	}
}

func TestTableGet(t *testing.T) {
	list := []impl.Part{partOf(5, "/5|", 3), partOf(3, "", 1), partOf(5, "", 0), partOf(5, "/5|", 0, 1), partOf(-1, "x", 9, 1, 9), partOf(3, ""), partOf(4, "/5|")}
	cases := []struct {
		name string
		list []impl.Part
		view int
		text string
		want impl.Part
	}{
		{"the only one", list, 5, "", partOf(5, "", 0)},
		{"the first of two", list, 5, "/5|", partOf(5, "/5|", 3)},
		{"the first of two, the other has nobody", list, 3, "", partOf(3, "", 1)},
		{"one that is not PartOk", list, -1, "x", partOf(-1, "x", 9, 1, 9)},
		{"one that has nobody", list, 4, "/5|", partOf(4, "/5|")},
		{"none of nothing", nil, 5, "/5|", partOf(5, "/5|")},
		{"none of an empty list", []impl.Part{}, 0, "", impl.Part{}},
		{"none of that View", list, 6, "/5|", partOf(6, "/5|")},
		{"none of that Name", list, 5, "/1|/5|", partOf(5, "/1|/5|")},
		{"none with no name", list, 4, "", partOf(4, "")},
		{"none, no name", list, 5, "?", partOf(5, "?")},
		{"none, View 0", list, 0, "", partOf(0, "")},
		{"none, the least View", list, math.MinInt, "", partOf(math.MinInt, "")},
		{"none, the greatest View", list, math.MaxInt, "/5|", partOf(math.MaxInt, "/5|")},
		{"none, the same low bits", list, 1<<32 + 5, "/5|", partOf(1<<32+5, "/5|")},
		{"behind more than a table has", append(slices.Repeat([]impl.Part{partOf(7, "", 1)}, 50), partOf(2, "", 2)), 2, "", partOf(2, "", 2)},
	}
	for _, c := range cases {
		if got := impl.TableGet(c.list, c.view, c.text); !samePart(got, c.want) {
			t.Errorf("%s: TableGet(%v, %d, %q) = %v, want %v", c.name, c.list, c.view, c.text, got, c.want)
		}
	}
}

func partViews() []int {
	return []int{math.MinInt, math.MinInt + 1, -60, -1, 0, 1, 2, 3, 4, 5, 9, 10, 11, 30, 59, 60, 61, 1 << 32, 1<<32 + 5, math.MaxInt - 1, math.MaxInt}
}

func TestTableGetAsTheWordsSay(t *testing.T) {
	names := []string{"", "/1|", "/2|", "/1|/2|", "/5|0>1:5#0", "/9|", "/1|/9|", "/10|", "/1|/10|", "/59|", "/60|", "x", "/", "\x00"}
	found := 0
	for _, list := range allTables() {
		for _, view := range partViews() {
			for _, name := range names {
				got, want := impl.TableGet(list, view, name), tableGetByWords(list, view, name)
				if !samePart(got, want) {
					t.Fatalf("TableGet(%v, %d, %q) = %v, want %v", list, view, name, got, want)
				}
				if len(got.Who) > 0 {
					found++
				}
			}
		}
	}
	if found < 1000 {
		t.Errorf("%d alone were found", found)
	}
}

func TestTableDrop(t *testing.T) {
	a, b, c, d := partOf(3, "", 1), partOf(5, "", 0), partOf(5, "/5|", 3), partOf(9, "/9|", 0, 1)
	list, odd := []impl.Part{a, b, c, d}, []impl.Part{d, partOf(-4, "x", 9), c, a, partOf(0, ""), c, b}
	cases := []struct {
		name string
		list []impl.Part
		view int
		want []impl.Part
	}{
		{"none of nothing", nil, 3, nil},
		{"none of an empty list", []impl.Part{}, 3, nil},
		{"none below", list, 3, list},
		{"none below 0", list, 0, list},
		{"a view below 0", list, -1, list},
		{"the least int", list, math.MinInt, list},
		{"some", list, 4, []impl.Part{b, c, d}},
		{"some, that view stays", list, 5, []impl.Part{b, c, d}},
		{"all but the last", list, 6, []impl.Part{d}},
		{"all but the last, its view", list, 9, []impl.Part{d}},
		{"all", list, 10, nil},
		{"the greatest int", list, math.MaxInt, nil},
		{"the same low bits", list, 1<<32 + 3, nil},
		{"no order, none", odd, math.MinInt, odd},
		{"no order, those below 0", odd, 0, []impl.Part{d, c, a, partOf(0, ""), c, b}},
		{"no order, some", odd, 5, []impl.Part{d, c, c, b}},
		{"no order, all", odd, 10, nil},
		{"the greatest int stays", []impl.Part{partOf(math.MaxInt, "", 1), a}, math.MaxInt, []impl.Part{partOf(math.MaxInt, "", 1)}},
		{"the least int stays", []impl.Part{partOf(math.MinInt, "", 1), a}, math.MinInt, []impl.Part{partOf(math.MinInt, "", 1), a}},
		{"the least int goes", []impl.Part{partOf(math.MinInt, "", 1), a}, math.MinInt + 1, []impl.Part{a}},
		{"more than a table has", slices.Repeat(list, 30), 9, slices.Repeat([]impl.Part{d}, 30)},
	}
	for _, c := range cases {
		if got := impl.TableDrop(c.list, c.view); !sameParts(got, c.want) {
			t.Errorf("%s: TableDrop(%v, %d) = %v, want %v", c.name, c.list, c.view, got, c.want)
		}
	}
}

func TestTableDropAsTheWordsSay(t *testing.T) {
	c := impl.Conf{N: 4, Fan: 2}
	for _, list := range allTables() {
		for _, view := range partViews() {
			got := impl.TableDrop(list, view)
			if !sameParts(got, tableDropByWords(list, view)) {
				t.Fatalf("TableDrop(%v, %d) = %v", list, view, got)
			}
			if impl.TableOk(c, list) && !impl.TableOk(c, got) {
				t.Fatalf("TableDrop(%v, %d) = %v, which is no table", list, view, got)
			}
		}
	}
}

func partWithRoom(p impl.Part) (impl.Part, []int) {
	given, whole := listWithRoom(p.Who)
	return impl.Part{View: p.View, Name: p.Name, Who: given}, whole
}

// roomyTable is a table with room behind it and behind each Who, in which every
// write is seen.
type roomyTable struct {
	given, whole []impl.Part
	lists        [][]int
	wholeBefore  []impl.Part
	listsBefore  [][]int
}

func tableWithRoom(list []impl.Part) roomyTable {
	var r roomyTable
	for _, p := range slices.Concat(list, []impl.Part{partOf(901, "a", 9), partOf(902, "b", 9), partOf(903, "c", 9)}) {
		given, whole := partWithRoom(p)
		r.whole, r.lists = append(r.whole, given), append(r.lists, whole)
	}
	r.given = r.whole[:len(list)]
	r.wholeBefore = cloneParts(r.whole)
	for _, list := range r.lists {
		r.listsBefore = append(r.listsBefore, slices.Clone(list))
	}
	return r
}

func (r roomyTable) untouched() bool {
	return sameParts(r.whole, r.wholeBefore) && slices.EqualFunc(r.lists, r.listsBefore, slices.Equal)
}

// spoilParts writes over all of an answer, and over the room behind it.
func spoilParts(list []impl.Part) {
	all := list[:cap(list)]
	for i := range all {
		spoilInts(all[i].Who[:cap(all[i].Who)])
		all[i] = partOf(-777, "spoilt", -777)
	}
}

// checkOwnLists writes into each Who of an answer: no other one may change.
func checkOwnLists(t *testing.T, answer []impl.Part) {
	t.Helper()
	want := cloneParts(answer)
	for i, p := range answer {
		spoilInts(p.Who[:cap(p.Who)])
		if !sameParts(answer[i+1:], want[i+1:]) {
			t.Fatalf("of %v, the one at %d shares memory with another", want, i)
		}
	}
}

// checkTableMemory calls twice: the second answer has to stay, whatever happens
// to the first one and to the argument.
func checkTableMemory(t *testing.T, name string, r roomyTable, call func([]impl.Part) []impl.Part) {
	t.Helper()
	got, again := call(r.given), call(r.given)
	want := cloneParts(got)
	if !r.untouched() {
		t.Fatalf("%s of %v wrote into its argument", name, r.wholeBefore)
	}
	spoilParts(got)
	if !r.untouched() {
		t.Fatalf("%s of %v shares memory with its argument", name, r.wholeBefore)
	}
	if !sameParts(again, want) {
		t.Fatalf("%s of %v: an answer shares memory with an earlier one", name, r.wholeBefore)
	}
	spoilParts(r.whole)
	if !sameParts(again, want) {
		t.Fatalf("%s of %v: an answer changes with its argument", name, r.wholeBefore)
	}
	checkOwnLists(t, again)
}

func TestTablesAreNewMemory(t *testing.T) {
	c := impl.Conf{N: 4, Fan: 2}
	for _, list := range slices.Concat(rightTables(), wrongTables()[:60], shortTables()[:120]) {
		for _, p := range addedParts() {
			given, whole := partWithRoom(p)
			before := slices.Clone(whole)
			checkTableMemory(t, "TableAdd", tableWithRoom(list), func(list []impl.Part) []impl.Part {
				got, _ := impl.TableAdd(c, list, given)
				return got
			})
			if !slices.Equal(whole, before) {
				t.Fatalf("TableAdd(%v, %v) wrote into the part, or shares memory with it", list, p)
			}
		}
		for _, view := range partViews() {
			checkTableMemory(t, "TableDrop", tableWithRoom(list), func(list []impl.Part) []impl.Part {
				return impl.TableDrop(list, view)
			})
			checkTableMemory(t, "TableGet", tableWithRoom(list), func(list []impl.Part) []impl.Part {
				return []impl.Part{impl.TableGet(list, view, "/9|"), impl.TableGet(list, view, "")}
			})
		}
		checkTableMemory(t, "TableOk", tableWithRoom(list), func(list []impl.Part) []impl.Part {
			impl.TableOk(c, list)
			return nil
		})
	}
}

// TestAnAddedPartIsNotKept turns the part behind the call.
func TestAnAddedPartIsNotKept(t *testing.T) {
	c := impl.Conf{N: 4, Fan: 2}
	for _, list := range rightTables() {
		for _, p := range addedParts() {
			given := clonePart(p)
			got, _ := impl.TableAdd(c, list, given)
			want := cloneParts(got)
			spoilInts(given.Who)
			if !sameParts(got, want) {
				t.Fatalf("TableAdd(%v, %v): the answer changes with the part", list, p)
			}
		}
	}
}

// TestTablesOfOneList has parts whose Who are all the same memory: those of an
// answer are not.
func TestTablesOfOneList(t *testing.T) {
	c := impl.Conf{N: 4, Fan: 2}
	who := []int{0, 1, 2, 3}
	right := []impl.Part{partOf(2, "", who[:2]...), partOf(3, "", who[:2]...), partOf(3, "/3|", who[:3]...), partOf(4, "/4|", who...)}
	wrong := append(slices.Clone(right), partOf(1, "", who[:1]...))
	for _, list := range [][]impl.Part{right, wrong} {
		for _, p := range []impl.Part{partOf(3, "", who[:2]...), partOf(5, "", who...), partOf(3, "/3|", who...), partOf(0, "", who...)} {
			got, _ := impl.TableAdd(c, list, p)
			if want, _ := tableAddByWords(c, list, p); !sameParts(got, want) {
				t.Fatalf("TableAdd(%v, %v) = %v, want %v", list, p, got, want)
			}
			checkOwnLists(t, got)
		}
		checkOwnLists(t, impl.TableDrop(list, 3))
		got := impl.TableGet(list, 4, "/4|")
		spoilInts(got.Who)
	}
	if !slices.Equal(who, []int{0, 1, 2, 3}) {
		t.Errorf("what all share was written into: %v", who)
	}
}

func TestPartsAreNewMemory(t *testing.T) {
	c := impl.Conf{N: 4, Fan: 2}
	for _, a := range pairParts() {
		for _, b := range pairParts() {
			givenA, wholeA := partWithRoom(a)
			givenB, wholeB := partWithRoom(b)
			beforeA, beforeB := slices.Clone(wholeA), slices.Clone(wholeB)
			impl.PartOk(c, givenA)
			joined, _ := impl.PartJoin(givenA, givenB)
			again, _ := impl.PartJoin(givenA, givenB)
			q, _ := impl.PartQc(c, givenA)
			qAgain, _ := impl.PartQc(c, givenA)
			want, wantQc := clonePart(joined), cloneQc(q)
			spoilInts(joined.Who)
			spoilInts(q.Who)
			if !slices.Equal(wholeA, beforeA) || !slices.Equal(wholeB, beforeB) || !samePart(givenA, a) || !samePart(givenB, b) {
				t.Fatalf("%v, %v: an argument was written into, or an answer shares memory with it", a, b)
			}
			spoilInts(wholeA)
			spoilInts(wholeB)
			if !samePart(again, want) || !sameQc(qAgain, wantQc) {
				t.Fatalf("%v, %v: an answer changes with an argument or with an earlier answer", a, b)
			}
		}
	}
}

// TestPartsDoNotReadBehindTheirLists hands in lists with what would make them
// right, or wrong, behind them.
func TestPartsDoNotReadBehindTheirLists(t *testing.T) {
	c := impl.Conf{N: 4, Fan: 2}
	whole := []int{0, 1, 2, 3}
	few, none := partOf(3, "/3|", whole[:2]...), partOf(3, "/3|", whole[:0]...)
	if _, ok := impl.PartQc(c, few); ok || impl.PartOk(c, none) {
		t.Error("what stands behind Who counts")
	}
	if got, ok := impl.PartJoin(few, none); !ok || len(got.Who) != 2 {
		t.Error(got, ok)
	}
	table := append(fullTable(), partOf(3, "/3|", 0), impl.Part{})
	if !impl.TableOk(c, table[:20]) || len(impl.TableGet(table[:20], 3, "/3|").Who) != 0 || len(impl.TableDrop(table[:20], 0)) != 20 {
		t.Error("what stands behind a table counts")
	}
	if got, ok := impl.TableAdd(c, table[:19], table[19]); !ok || len(got) != 20 {
		t.Error(got, ok)
	}
}

// TestGreatTables has lists and names far beyond what is right: they are
// refused, or told as they are.
func TestGreatTables(t *testing.T) {
	c := impl.Conf{N: 4, Fan: 2}
	who := viewsFrom(0, 50000)
	name := strings.Repeat("/1|", 50000)
	great, late := partOf(1, name, who...), partOf(1, "", who...)
	if impl.PartOk(c, great) || impl.PartOk(c, late) || impl.PartOk(c, partOf(1, name, 0)) {
		t.Error("PartOk of a great one")
	}
	if _, ok := impl.PartQc(c, great); ok {
		t.Error("PartQc of a great one")
	}
	if got, ok := impl.PartJoin(great, partOf(1, name, -1, 50000)); !ok || len(got.Who) != 50002 || got.Name != name {
		t.Error("PartJoin of a great one")
	}
	var table []impl.Part
	for view := range 50000 {
		table = append(table, partOf(view, "", 1))
	}
	if got, ok := impl.TableAdd(c, table, partOf(7, "", 2)); ok || !sameParts(got, table) || impl.TableOk(c, table) {
		t.Error("TableAdd to a great one")
	}
	if got, ok := impl.TableAdd(c, nil, great); ok || len(got) != 0 {
		t.Error("TableAdd of a great one")
	}
	if got := impl.TableDrop(table, 49999); !sameParts(got, table[49999:]) {
		t.Error("TableDrop of a great one")
	}
	if got := impl.TableGet(table, 49999, ""); !samePart(got, table[49999]) {
		t.Error("TableGet of a great one")
	}
}
