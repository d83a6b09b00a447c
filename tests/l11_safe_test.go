package tests

import (
	"math"
	"slices"
	"strings"
	"testing"

	"loop.example/g00448/impl"
)

func safeOf(voted, lock int, high impl.Qc, done string) impl.Safe {
	return impl.Safe{Voted: voted, Lock: lock, High: high, Done: done}
}

func cloneSafe(s impl.Safe) impl.Safe {
	return safeOf(s.Voted, s.Lock, cloneQc(s.High), strings.Clone(s.Done))
}

func sameSafe(a, b impl.Safe) bool {
	return a.Voted == b.Voted && a.Lock == b.Lock && sameQc(a.High, b.High) && a.Done == b.Done
}

func safeOkByWords(c impl.Conf, s impl.Safe) bool {
	_, named := stepsByWords(s.Done)
	return s.Voted >= 0 && s.Voted <= 60 && s.Lock >= 0 && s.Lock <= 60 && qcOkByWords(c, s.High) && named
}

// beginsWith tells whether t is the beginning of s, step by step.
func beginsWith(s, t string) bool {
	long, named := stepsByWords(s)
	short, alsoNamed := stepsByWords(t)
	return named && alsoNamed && len(short) <= len(long) && sameSteps(long[:len(short)], short)
}

func settlesByWords(name string) (string, bool) {
	steps, _ := stepsByWords(name)
	at := len(steps) - 3
	if at < 0 || steps[at+1].View != steps[at].View+1 || steps[at+2].View != steps[at+1].View+1 {
		return "", false
	}
	return nameByWords(steps[:at+1]), true
}

func seeByWords(c impl.Conf, s impl.Safe, q impl.Qc) impl.Safe {
	if !safeOkByWords(c, s) || !qcOkByWords(c, q) {
		return s
	}
	out := s
	if q.View > s.High.View {
		out.High = q
	}
	if steps, _ := stepsByWords(q.Name); len(steps) > 1 && steps[len(steps)-2].View > s.Lock {
		out.Lock = steps[len(steps)-2].View
	}
	if done, ok := settlesByWords(q.Name); ok && beginsWith(done, s.Done) {
		out.Done = done
	}
	return out
}

func mayVoteByWords(c impl.Conf, s impl.Safe, b impl.Block) bool {
	return safeOkByWords(c, s) && blockOkByWords(c, b) && viewByWords(b.Name) > s.Voted && !(b.Qc.View < s.Lock)
}

func voteByWords(c impl.Conf, s impl.Safe, b impl.Block) (impl.Safe, bool) {
	if !mayVoteByWords(c, s, b) {
		return s, false
	}
	return safeOf(viewByWords(b.Name), s.Lock, s.High, s.Done), true
}

// safeNames has two chains of views in a row that part behind view 2, some with
// gaps, and the edges of views and heights.
func safeNames() []string {
	return []string{
		"", "/1|", "/2|", "/60|", "/1|/2|", "/1|/3|", "/2|/3|", "/59|/60|",
		"/1|/2|/3|", "/1|/2|/3|/4|", "/1|/2|/3|/4|/5|", "/1|/2|/3|/4|/5|/6|",
		"/1|/2|/3|0>1:5#0", "/1|/2|/3|0>1:5#0/4|", "/1|/2|/3|0>1:5#0/4|/5|", "/1|/2|/3|0>1:5#0/4|/5|/6|",
		"/1|/2|/4|", "/1|/3|/4|", "/1|/3|/5|", "/2|/3|/4|", "/1|/3|/4|/5|", "/1|/2|/4|/5|", "/1|/2|/3|/5|", "/1|/2|/4|/5|/6|",
		"/9|/10|/11|", "/58|/59|/60|", "/57|/59|/60|",
		nameByWords(chainOf(viewsFrom(1, 30)...)), nameByWords(chainOf(viewsFrom(31, 30)...)),
	}
}

func rightQcs(c impl.Conf) []impl.Qc {
	var out []impl.Qc
	for _, name := range safeNames() {
		out = append(out, enoughQc(c, name))
	}
	return append(out, impl.Qc{Who: []int{}}, qcOf(3, "/1|/2|/3|", setOfBits(1<<c.N-1)...))
}

// wrongQcs has certificates that are not QcOk of four replicas, but that would
// turn all that See turns if they were.
func wrongQcs() []impl.Qc {
	name := "/1|/2|/3|/4|/5|/6|"
	return []impl.Qc{
		qcOf(6, name, 0, 1), qcOf(6, name), qcOf(6, name, 0, 2, 1), qcOf(6, name, 0, 1, 1), qcOf(6, name, -1, 0, 1), qcOf(6, name, 0, 1, 4),
		qcOf(5, name, 0, 1, 2), qcOf(7, name, 0, 1, 2), qcOf(0, name, 0, 1, 2), qcOf(-6, name, 0, 1, 2), qcOf(1<<32+6, name, 0, 1, 2),
		qcOf(math.MaxInt, name, 0, 1, 2), qcOf(math.MinInt, name, 0, 1, 2),
		qcOf(6, "", 0, 1, 2), qcOf(0, "", 0, 1, 2), qcOf(60, ""), qcOf(-1, ""), qcOf(0, "", 0),
		qcOf(7, name+"/7", 0, 1, 2), qcOf(6, name+"x", 0, 1, 2), qcOf(6, name+"/6|", 0, 1, 2), qcOf(61, "/59|/60|/61|", 0, 1, 2),
		qcOf(6, "/4|/5|/6|0>4:5#0", 0, 1, 2), qcOf(2, "/0|/1|/2|", 0, 1, 2), qcOf(31, nameByWords(chainOf(viewsFrom(1, 31)...)), 0, 1, 2),
	}
}

func rightSafes(c impl.Conf) []impl.Safe {
	first := impl.QcFirst()
	out := []impl.Safe{
		impl.SafeNew(), {High: impl.Qc{Who: []int{}}},
		safeOf(60, 60, enoughQc(c, "/58|/59|/60|"), "/58|"),
		safeOf(0, 60, first, ""), safeOf(60, 0, first, ""), safeOf(0, 0, enoughQc(c, "/60|"), ""), safeOf(3, 5, first, "/60|"),
		safeOf(0, 0, first, nameByWords(chainOf(viewsFrom(1, 30)...))), safeOf(5, 0, first, "/1|/2|/3|/4|"), safeOf(0, 2, first, "/1|/3|"),
	}
	for view := range 6 {
		for _, name := range []string{"", "/1|/2|/3|", "/1|/2|/3|0>1:5#0/4|", "/1|/2|/4|/5|"} {
			for _, done := range []string{"", "/1|", "/1|/2|", "/1|/2|/3|", "/1|/2|/3|0>1:5#0", "/2|"} {
				out = append(out, safeOf(view, (2*view+1)%6, enoughQc(c, name), done))
			}
		}
	}
	return out
}

// wrongSafes has each field alone beyond what is right for four replicas.
func wrongSafes() []impl.Safe {
	right := safeOf(3, 2, qcOf(3, "/1|/2|/3|", 0, 1, 2), "/1|")
	var out []impl.Safe
	for _, view := range []int{-1, -2, -60, 61, 62, 1 << 32, 1<<32 + 3, math.MinInt, math.MaxInt} {
		voted, lock := right, right
		voted.Voted, lock.Lock = view, view
		out = append(out, voted, lock)
	}
	for _, q := range wrongQcs() {
		high := right
		high.High = q
		out = append(out, high)
	}
	for _, name := range []string{"/", "x", " ", "/1", "/1|x", "/0|", "/61|", "/2|/1|", "/1|/1|", "start", nameByWords(chainOf(viewsFrom(1, 31)...))} {
		done := right
		done.Done = name
		out = append(out, done)
	}
	return out
}

func allSafes(c impl.Conf) []impl.Safe { return append(rightSafes(c), wrongSafes()...) }

// rightBlocks has a block of a few views on each certificate.
func rightBlocks(c impl.Conf) []impl.Block {
	var out []impl.Block
	for _, q := range rightQcs(c) {
		for _, more := range []int{1, 2, 4} {
			if b := blockOf(q.Name+nameByWords([]impl.Step{{View: q.View + more}}), q); blockOkByWords(c, b) {
				out = append(out, b)
			}
		}
	}
	return append(out, blockOf("/60|0>1:5#0,1>0:5#0", impl.QcFirst()), blockOf("/1|/60|", enoughQc(c, "/1|")))
}

// wrongBlocks has blocks that are not BlockOk of four replicas, in views and on
// views that could be voted for.
func wrongBlocks() []impl.Block {
	three := qcOf(3, "/1|/2|/3|", 0, 1, 2)
	out := []impl.Block{
		{}, blockOf("", three), blockOf("x", three), blockOf("/1|/2|/3|", three), blockOf("/60|", three), blockOf("/1|/2|/3|/3|", three),
		blockOf("/1|/2|/3|/59|/60|", three), blockOf("/1|/2|/3|/61|", three), blockOf("/1|/2|/3|/60", three), blockOf("/1|/2|/3|/60|x", three),
		blockOf("/1|/2|/3|0>1:5#0/60|", three), blockOf("/1|/60|", impl.QcFirst()), blockOf("/60|0>4:5#0", impl.QcFirst()),
	}
	for _, q := range wrongQcs() {
		out = append(out, blockOf(q.Name+"/60|", q))
	}
	return out
}

func allBlocks(c impl.Conf) []impl.Block { return append(rightBlocks(c), wrongBlocks()...) }

func TestSafeOk(t *testing.T) {
	four, seven := impl.Conf{N: 4, Fan: 2}, impl.Conf{N: 7, Fan: 6}
	first, three := impl.QcFirst(), qcOf(3, "/2|/3|", 0, 1, 3)
	full := nameByWords(chainOf(viewsFrom(1, 30)...))
	cases := []struct {
		name string
		c    impl.Conf
		s    impl.Safe
		want bool
	}{
		{"ordinary", four, safeOf(4, 2, three, "/1|/2|"), true},
		{"new", four, safeOf(0, 0, first, ""), true},
		{"zero", four, impl.Safe{}, true},
		{"an empty list", four, impl.Safe{High: impl.Qc{Who: []int{}}}, true},
		{"Voted at its limit", four, safeOf(impl.MaxView, 0, first, ""), true},
		{"Lock at its limit", four, safeOf(0, impl.MaxView, first, ""), true},
		{"all at their limits", four, safeOf(60, 60, qcOf(60, "/60|", 0, 1, 2, 3), full), true},
		{"Lock above Voted and High", four, safeOf(1, 50, three, ""), true},
		{"High above Voted and Lock", four, safeOf(1, 0, three, ""), true},
		{"Done that High does not stand on", four, safeOf(3, 2, three, "/7|/60|"), true},
		{"Done of payments", four, safeOf(3, 2, first, "/2|0>1:5#0,3>2:1000#99"), true},
		{"enough of seven", seven, safeOf(3, 2, qcOf(3, "/2|/3|", 0, 2, 3, 4, 6), ""), true},

		{"Voted -1", four, safeOf(-1, 2, three, ""), false},
		{"Voted above MaxView", four, safeOf(impl.MaxView+1, 2, three, ""), false},
		{"the least Voted", four, safeOf(math.MinInt, 2, three, ""), false},
		{"the greatest Voted", four, safeOf(math.MaxInt, 2, three, ""), false},
		{"the same low bits of Voted", four, safeOf(1<<32, 2, three, ""), false},
		{"Lock -1", four, safeOf(3, -1, three, ""), false},
		{"Lock above MaxView", four, safeOf(3, impl.MaxView+1, three, ""), false},
		{"the least Lock", four, safeOf(3, math.MinInt, three, ""), false},
		{"the greatest Lock", four, safeOf(3, math.MaxInt, three, ""), false},
		{"the same low bits of Lock", four, safeOf(3, 1<<32, three, ""), false},

		{"High of too few", four, safeOf(3, 2, qcOf(3, "/2|/3|", 0, 1), ""), false},
		{"High of nobody", four, safeOf(3, 2, qcOf(3, "/2|/3|"), ""), false},
		{"High of too few of seven", seven, safeOf(3, 2, qcOf(3, "/2|/3|", 0, 1, 2, 3), ""), false},
		{"High of a View that is not its name's", four, safeOf(3, 2, qcOf(2, "/2|/3|", 0, 1, 3), ""), false},
		{"High of View 0 with a name", four, safeOf(3, 2, qcOf(0, "/2|/3|", 0, 1, 3), ""), false},
		{"High of no name", four, safeOf(3, 2, qcOf(3, "/2|/3", 0, 1, 3), ""), false},
		{"High of the beginning, with a View", four, safeOf(3, 2, qcOf(3, ""), ""), false},
		{"High of the beginning, with somebody", four, safeOf(3, 2, qcOf(0, "", 0), ""), false},
		{"High in the wrong order", four, safeOf(3, 2, qcOf(3, "/2|/3|", 0, 3, 1), ""), false},
		{"High with one twice", four, safeOf(3, 2, qcOf(3, "/2|/3|", 0, 1, 1), ""), false},
		{"High with the replica N", four, safeOf(3, 2, qcOf(3, "/2|/3|", 0, 1, 4), ""), false},
		{"High with the replica -1", four, safeOf(3, 2, qcOf(3, "/2|/3|", -1, 0, 1), ""), false},

		{"Done that is no name", four, safeOf(3, 2, three, "x"), false},
		{"Done that is half a step", four, safeOf(3, 2, three, "/2"), false},
		{"Done of view 0", four, safeOf(3, 2, three, "/0|"), false},
		{"Done above MaxView", four, safeOf(3, 2, three, "/61|"), false},
		{"Done that goes down", four, safeOf(3, 2, three, "/3|/2|"), false},
		{"Done one step too high", four, safeOf(3, 2, three, full+"/31|"), false},
		{"Done of a payment that is none", four, safeOf(3, 2, three, "/2|0>4:5#0"), false},

		{"the Conf zero", impl.Conf{}, safeOf(0, 0, first, ""), false},
		{"N one too few", impl.Conf{N: 3, Fan: 2}, safeOf(0, 0, first, ""), false},
		{"N one too many", impl.Conf{N: 8, Fan: 2}, safeOf(0, 0, first, ""), false},
		{"Fan one too few", impl.Conf{N: 4, Fan: 0}, safeOf(3, 2, three, ""), false},
		{"Fan one too many", impl.Conf{N: 4, Fan: 7}, safeOf(3, 2, three, ""), false},
	}
	for _, c := range cases {
		if got := impl.SafeOk(c.c, c.s); got != c.want {
			t.Errorf("%s: SafeOk(%v, %v) = %v", c.name, c.c, c.s, got)
		}
		if got := safeOkByWords(c.c, c.s); got != c.want {
			t.Errorf("%s: the second reading is %v", c.name, got)
		}
	}
}

func TestSafeOkAtEachView(t *testing.T) {
	c := impl.Conf{N: 4, Fan: 2}
	for view := -70; view <= 130; view++ {
		want := view >= 0 && view <= 60
		if impl.SafeOk(c, safeOf(view, 0, impl.QcFirst(), "")) != want || impl.SafeOk(c, safeOf(0, view, impl.QcFirst(), "")) != want {
			t.Errorf("SafeOk at view %d", view)
		}
	}
}

func TestSafeOkAsTheWordsSay(t *testing.T) {
	c := impl.Conf{N: 4, Fan: 2}
	for _, s := range rightSafes(c) {
		if !impl.SafeOk(c, s) {
			t.Errorf("SafeOk(%v) is false", s)
		}
	}
	for _, s := range wrongSafes() {
		if impl.SafeOk(c, s) {
			t.Errorf("SafeOk(%v) is true", s)
		}
	}
	for _, c := range allConfs() {
		for _, s := range rightSafes(impl.Conf{N: 7, Fan: 2})[:40] {
			if got := impl.SafeOk(c, s); got != safeOkByWords(c, s) {
				t.Fatalf("SafeOk(%v, %v) = %v", c, s, got)
			}
		}
	}
	for _, name := range slices.Concat(rightNames(), wrongNames(), unsureNames()) {
		_, named := stepsByWords(name)
		if impl.SafeOk(c, safeOf(0, 0, impl.QcFirst(), name)) != named {
			t.Fatalf("SafeOk with %q settled is not %v", name, named)
		}
	}
	for _, q := range nearQcs(qcNames(), qcLists()) {
		if impl.SafeOk(c, safeOf(0, 0, q, "")) != qcOkByWords(c, q) {
			t.Fatalf("SafeOk with %v", q)
		}
	}
}

func TestSafeNew(t *testing.T) {
	s := impl.SafeNew()
	if s.Voted != 0 || s.Lock != 0 || s.High.View != 0 || s.High.Name != "" || len(s.High.Who) != 0 || s.Done != "" {
		t.Error(s)
	}
	for _, c := range allConfs() {
		if impl.SafeOk(c, s) != confOkByWords(c) {
			t.Errorf("SafeOk(%v) of a new one", c)
		}
	}
	if !impl.SafeSame(s, impl.Safe{}) {
		t.Error("a new one is not zero")
	}
}

func TestSafeSame(t *testing.T) {
	s := safeOf(4, 2, qcOf(3, "/2|/3|", 0, 1, 3), "/1|/2|")
	wrong := safeOf(-4, 99, qcOf(-7, "x", 9, 1, 9), "y")
	cases := []struct {
		name string
		a, b impl.Safe
		want bool
	}{
		{"itself", s, s, true},
		{"alike", s, cloneSafe(s), true},
		{"zero and new", impl.Safe{}, impl.SafeNew(), true},
		{"nil and an empty list", impl.SafeNew(), impl.Safe{High: impl.Qc{Who: []int{}}}, true},
		{"nil and an empty list, of a block", safeOf(4, 2, impl.Qc{View: 3, Name: "/3|"}, ""), safeOf(4, 2, impl.Qc{View: 3, Name: "/3|", Who: []int{}}, ""), true},
		{"not SafeOk, alike", wrong, cloneSafe(wrong), true},

		{"another Voted", s, safeOf(5, 2, s.High, s.Done), false},
		{"Voted below 0", s, safeOf(-4, 2, s.High, s.Done), false},
		{"the same low bits of Voted", s, safeOf(1<<32+4, 2, s.High, s.Done), false},
		{"another Lock", s, safeOf(4, 3, s.High, s.Done), false},
		{"the same low bits of Lock", s, safeOf(4, 1<<32+2, s.High, s.Done), false},
		{"Voted and Lock the other way round", s, safeOf(2, 4, s.High, s.Done), false},
		{"another View of High", s, safeOf(4, 2, qcOf(4, "/2|/3|", 0, 1, 3), s.Done), false},
		{"another Name of High", s, safeOf(4, 2, qcOf(3, "/1|/3|", 0, 1, 3), s.Done), false},
		{"no Name of High", s, safeOf(4, 2, qcOf(3, "", 0, 1, 3), s.Done), false},
		{"another voter of High", s, safeOf(4, 2, qcOf(3, "/2|/3|", 0, 1, 2), s.Done), false},
		{"one voter more", s, safeOf(4, 2, qcOf(3, "/2|/3|", 0, 1, 3, 4), s.Done), false},
		{"one voter fewer", s, safeOf(4, 2, qcOf(3, "/2|/3|", 0, 1), s.Done), false},
		{"voters in another order", s, safeOf(4, 2, qcOf(3, "/2|/3|", 0, 3, 1), s.Done), false},
		{"nobody", s, safeOf(4, 2, qcOf(3, "/2|/3|"), s.Done), false},
		{"QcFirst", s, safeOf(4, 2, impl.QcFirst(), s.Done), false},
		{"another Done", s, safeOf(4, 2, s.High, "/2|"), false},
		{"a Done that goes on", s, safeOf(4, 2, s.High, "/1|/2|/3|"), false},
		{"a Done that goes on by a payment", s, safeOf(4, 2, s.High, "/1|/2|0>1:5#0"), false},
		{"a Done that is shorter", s, safeOf(4, 2, s.High, "/1|"), false},
		{"no Done", s, safeOf(4, 2, s.High, ""), false},
		{"the names the other way round", s, safeOf(4, 2, qcOf(3, "/1|/2|", 0, 1, 3), "/2|/3|"), false},
		{"not SafeOk, another Done", wrong, safeOf(-4, 99, wrong.High, "z"), false},
		{"not SafeOk, another order", wrong, safeOf(-4, 99, qcOf(-7, "x", 9, 9, 1), "y"), false},
		{"the ends of int", safeOf(math.MinInt, math.MaxInt, s.High, ""), safeOf(math.MaxInt, math.MinInt, s.High, ""), false},
		{"bytes that are no text", safeOf(0, 0, s.High, "\xff"), safeOf(0, 0, s.High, "\xfe"), false},
	}
	for _, c := range cases {
		if impl.SafeSame(c.a, c.b) != c.want || impl.SafeSame(c.b, c.a) != c.want {
			t.Errorf("%s: SafeSame(%v, %v) is not %v", c.name, c.a, c.b, c.want)
		}
	}
}

func TestSafeSameOfEachTwo(t *testing.T) {
	all := allSafes(impl.Conf{N: 4, Fan: 2})
	for _, q := range pairQcs() {
		all = append(all, safeOf(3, 2, q, "/1|"))
	}
	for _, a := range all {
		for _, b := range all {
			if got := impl.SafeSame(a, b); got != sameSafe(a, b) {
				t.Fatalf("SafeSame(%v, %v) = %v", a, b, got)
			}
		}
	}
}

func TestSettles(t *testing.T) {
	long := nameByWords(chainOf(viewsFrom(31, 30)...))
	cases := []struct {
		name string
		text string
		want string // none: empty and false
	}{
		{"three in a row", "/1|/2|/3|", "/1|"},
		{"three in a row, further on", "/7|/8|/9|", "/7|"},
		{"three in a row, more digits", "/9|/10|/11|", "/9|"},
		{"the last three views", "/58|/59|/60|", "/58|"},
		{"payments go along", "/1|0>1:5#0,1>0:3#0/2|2>3:7#0/3|3>2:1#0", "/1|0>1:5#0,1>0:3#0"},
		{"four in a row", "/1|/2|/3|/4|", "/1|/2|"},
		{"four, a gap only ahead of the three", "/1|/3|/4|/5|", "/1|/3|"},
		{"four, a great gap ahead of the three", "/1|/58|/59|/60|", "/1|/58|"},
		{"five in a row", "/2|/3|/4|/5|/6|", "/2|/3|/4|"},
		{"five, a gap only ahead of the three", "/1|/2|/4|/5|/6|", "/1|/2|/4|"},
		{"five, gaps only ahead of the three", "/1|/3|/5|/6|/7|", "/1|/3|/5|"},
		{"five with payments", "/2|0>1:5#0/3|/4|1>0:3#0/5|/6|2>2:0#0", "/2|0>1:5#0/3|/4|1>0:3#0"},
		{"MaxHeight", long, nameByWords(chainOf(viewsFrom(31, 28)...))},

		{"the beginning", "", ""},
		{"one step", "/1|", ""},
		{"one step of view 3", "/3|", ""},
		{"two steps in a row", "/1|/2|", ""},
		{"two steps in a row, further on", "/2|/3|", ""},
		{"a gap between the first two", "/1|/3|/4|", ""},
		{"a gap between the last two", "/1|/2|/4|", ""},
		{"two gaps", "/1|/3|/5|", ""},
		{"the first and the last only", "/1|/30|/60|", ""},
		{"four, a gap between the first two of the three", "/1|/2|/4|/5|", ""},
		{"four, a gap between the last two", "/1|/2|/3|/5|", ""},
		{"five, a gap between the first two of the three", "/1|/2|/3|/5|/6|", ""},
		{"five, a gap between the last two", "/1|/2|/3|/4|/6|", ""},
		{"the gap is great", "/1|/2|/3|/4|/60|", ""},

		{"no name", "x", ""},
		{"a blank", " ", ""},
		{"no name behind three", "/1|/2|/3|x", ""},
		{"no name ahead of three", "x/1|/2|/3|", ""},
		{"half a step behind three", "/1|/2|/3|/4", ""},
		{"a mark behind three", "/1|/2|/3|/", ""},
		{"half a step of three", "/1|/2|/3", ""},
		{"from view 0 on", "/0|/1|/2|", ""},
		{"beyond MaxView", "/59|/60|/61|", ""},
		{"going down", "/3|/2|/1|", ""},
		{"one view again and again", "/2|/2|/2|", ""},
		{"a nought ahead", "/01|/2|/3|", ""},
		{"a payment that is none", "/1|0>4:5#0/2|/3|", ""},
		{"too many payments", "/1|/2|/3|0>1:5#0,0>1:5#1,0>1:5#2", ""},
		{"one step too high", nameByWords(chainOf(viewsFrom(1, 31)...)), ""},
	}
	for _, c := range cases {
		if got, ok := impl.Settles(c.text); got != c.want || ok != (c.want != "") {
			t.Errorf("%s: Settles(%q) = %q, %v, want %q", c.name, c.text, got, ok, c.want)
		}
	}
}

// TestSettlesOfEachFewViews takes each chain of views from 1 to 8.
func TestSettlesOfEachFewViews(t *testing.T) {
	settled := 0
	for bits := range 1 << 8 {
		var views []int
		for _, i := range setOfBits(bits) {
			views = append(views, i+1)
		}
		steps := chainOf(views...)
		want, first := "", len(views)-3
		if first >= 0 && slices.Equal(views[first:], viewsFrom(views[first], 3)) {
			want = nameByWords(steps[:first+1])
			settled++
		}
		if got, ok := impl.Settles(nameByWords(steps)); got != want || ok != (want != "") {
			t.Fatalf("Settles of the views %v = %q, %v, want %q", views, got, ok, want)
		}
	}
	// Three in a row end at a view from 3 to 8, with any of those below them.
	if settled != 1+2+4+8+16+32 {
		t.Errorf("%d settle something", settled)
	}
}

func TestSettlesAsTheWordsSay(t *testing.T) {
	for _, name := range slices.Concat(kinNames(), safeNames(), wrongNames(), unsureNames()) {
		want, wantOk := settlesByWords(name)
		if got, ok := impl.Settles(name); got != want || ok != wantOk {
			t.Fatalf("Settles(%q) = %q, %v, want %q, %v", name, got, ok, want, wantOk)
		}
	}
}

func TestSee(t *testing.T) {
	c := impl.Conf{N: 4, Fan: 2}
	first := impl.QcFirst()
	two, three, four := qcOf(2, "/1|/2|", 0, 1, 2), qcOf(3, "/1|/2|/3|", 0, 1, 2), qcOf(4, "/1|/2|/3|/4|", 1, 2, 3)
	gap, late := qcOf(5, "/1|/2|/3|/5|", 0, 1, 2), qcOf(30, "/30|", 0, 1, 2)
	cases := []struct {
		name string
		s    impl.Safe
		q    impl.Qc
		want impl.Safe
	}{
		{"the beginning, of a new one", impl.SafeNew(), first, impl.SafeNew()},
		{"the beginning, as an empty list", impl.SafeNew(), impl.Qc{Who: []int{}}, impl.SafeNew()},
		{"the beginning, of a later one", safeOf(5, 2, three, "/1|"), first, safeOf(5, 2, three, "/1|")},
		{"the first block", impl.SafeNew(), qcOf(1, "/1|", 0, 1, 2), safeOf(0, 0, qcOf(1, "/1|", 0, 1, 2), "")},
		{"the second one", impl.SafeNew(), two, safeOf(0, 1, two, "")},
		{"the third one", impl.SafeNew(), three, safeOf(0, 2, three, "/1|")},
		{"the fourth one", impl.SafeNew(), four, safeOf(0, 3, four, "/1|/2|")},
		{"the last view", impl.SafeNew(), qcOf(60, "/59|/60|", 0, 1, 2), safeOf(0, 59, qcOf(60, "/59|/60|", 0, 1, 2), "")},
		{"Voted stays", safeOf(17, 0, first, ""), three, safeOf(17, 2, three, "/1|")},

		{"later than High", safeOf(9, 3, three, "/1|"), qcOf(7, "/7|", 0, 1, 2), safeOf(9, 3, qcOf(7, "/7|", 0, 1, 2), "/1|")},
		{"later by one", safeOf(9, 3, three, "/1|"), qcOf(4, "/4|", 0, 1, 2), safeOf(9, 3, qcOf(4, "/4|", 0, 1, 2), "/1|")},
		{"of the same View", safeOf(9, 3, three, "/1|"), qcOf(3, "/3|", 1, 2, 3), safeOf(9, 3, three, "/1|")},
		{"of the same View and name, others", safeOf(9, 3, three, "/1|"), qcOf(3, "/1|/2|/3|", 0, 1, 2, 3), safeOf(9, 3, three, "/1|")},
		{"of a lower View", safeOf(9, 3, three, "/1|"), qcOf(2, "/2|", 1, 2, 3), safeOf(9, 3, three, "/1|")},
		{"of a lower View, more digits in High", safeOf(9, 3, qcOf(10, "/10|", 0, 1, 2), ""), qcOf(9, "/9|", 0, 1, 2), safeOf(9, 3, qcOf(10, "/10|", 0, 1, 2), "")},

		{"Lock below it", safeOf(0, 2, three, "/1|"), four, safeOf(0, 3, four, "/1|/2|")},
		{"Lock at it", safeOf(0, 3, three, "/1|"), four, safeOf(0, 3, four, "/1|/2|")},
		{"Lock above it", safeOf(0, 4, three, "/1|"), four, safeOf(0, 4, four, "/1|/2|")},
		{"Lock far above it", safeOf(0, 60, three, "/1|"), four, safeOf(0, 60, four, "/1|/2|")},
		{"Lock is the view of the last but one, not of the one before", safeOf(0, 0, first, ""), gap, safeOf(0, 3, gap, "")},
		{"Lock, from a lower View than High", safeOf(0, 0, late, ""), two, safeOf(0, 1, late, "")},
		{"Lock, from the View of High", safeOf(0, 0, qcOf(2, "/2|", 1, 2, 3), ""), two, safeOf(0, 1, qcOf(2, "/2|", 1, 2, 3), "")},
		{"a single step locks nothing", safeOf(0, 2, first, ""), late, safeOf(0, 2, late, "")},

		{"Done, from the beginning", safeOf(0, 3, four, ""), four, safeOf(0, 3, four, "/1|/2|")},
		{"Done goes on", safeOf(0, 3, four, "/1|"), four, safeOf(0, 3, four, "/1|/2|")},
		{"Done is that already", safeOf(0, 3, four, "/1|/2|"), four, safeOf(0, 3, four, "/1|/2|")},
		{"Done is further on", safeOf(0, 3, four, "/1|/2|/3|"), four, safeOf(0, 3, four, "/1|/2|/3|")},
		{"Done is the certified name", safeOf(0, 3, four, "/1|/2|/3|/4|"), four, safeOf(0, 3, four, "/1|/2|/3|/4|")},
		{"Done is another chain", safeOf(0, 3, four, "/2|"), four, safeOf(0, 3, four, "/2|")},
		{"Done parts at its payments", safeOf(0, 3, four, "/1|0>1:5#0"), four, safeOf(0, 3, four, "/1|0>1:5#0")},
		{"Done parts at its last step", safeOf(0, 3, four, "/1|/2|0>1:5#0"), four, safeOf(0, 3, four, "/1|/2|0>1:5#0")},
		{"Done only begins like it, by its digits", safeOf(0, 0, first, "/1|"), qcOf(12, "/10|/11|/12|", 0, 1, 2), safeOf(0, 11, qcOf(12, "/10|/11|/12|", 0, 1, 2), "/1|")},
		{"nothing is settled", safeOf(0, 0, first, "/1|"), gap, safeOf(0, 3, gap, "/1|")},
		{"nothing is settled, from the beginning", safeOf(0, 0, first, ""), qcOf(4, "/1|/3|/4|", 0, 1, 2), safeOf(0, 3, qcOf(4, "/1|/3|/4|", 0, 1, 2), "")},
		{"Done, from a lower View than High", safeOf(0, 29, late, ""), four, safeOf(0, 29, late, "/1|/2|")},
		{"Done, from a lower View than Lock", safeOf(60, 60, late, "/1|"), four, safeOf(60, 60, late, "/1|/2|")},
		{"Done over several steps", safeOf(0, 0, first, "/1|"), qcOf(9, "/1|/3|/5|/7|/8|/9|", 0, 1, 2), safeOf(0, 8, qcOf(9, "/1|/3|/5|/7|/8|/9|", 0, 1, 2), "/1|/3|/5|/7|")},
	}
	for _, x := range cases {
		if got := impl.See(c, x.s, x.q); !sameSafe(got, x.want) {
			t.Errorf("%s: See(%v, %v) = %v, want %v", x.name, x.s, x.q, got, x.want)
		}
		if got := seeByWords(c, x.s, x.q); !sameSafe(got, x.want) {
			t.Errorf("%s: the second reading is %v", x.name, got)
		}
	}
}

// TestSeeRefuses has what would turn something, if it were right.
func TestSeeRefuses(t *testing.T) {
	c := impl.Conf{N: 4, Fan: 2}
	six := qcOf(6, "/1|/2|/3|/4|/5|/6|", 0, 1, 2)
	for _, q := range wrongQcs() {
		for _, s := range allSafes(c) {
			if got := impl.See(c, s, q); !sameSafe(got, s) {
				t.Fatalf("See(%v, %v) = %v", s, q, got)
			}
		}
	}
	for _, s := range wrongSafes() {
		for _, q := range append(rightQcs(c), six) {
			if got := impl.See(c, s, q); !sameSafe(got, s) {
				t.Fatalf("See(%v, %v) = %v", s, q, got)
			}
		}
	}
	for _, wrong := range wrongConfs() {
		if got := impl.See(wrong, impl.SafeNew(), six); !sameSafe(got, impl.SafeNew()) {
			t.Fatalf("See(%v, %v) of a new one = %v", wrong, six, got)
		}
	}
	// Enough of four are too few of five, whichever of both they are in.
	five := impl.Conf{N: 5, Fan: 2}
	high := safeOf(1, 1, six, "")
	if got := impl.See(five, impl.SafeNew(), six); !sameSafe(got, impl.SafeNew()) {
		t.Error(got)
	}
	if got := impl.See(five, high, qcOf(7, "/7|", 0, 1, 2, 3)); !sameSafe(got, high) {
		t.Error(got)
	}
}

func TestSeeAsTheWordsSay(t *testing.T) {
	later, locked, settled := 0, 0, 0
	for _, c := range []impl.Conf{{N: 4, Fan: 2}, {N: 7, Fan: 6}} {
		for _, s := range allSafes(c) {
			for _, q := range slices.Concat(rightQcs(c), wrongQcs(), pairQcs()) {
				got, want := impl.See(c, s, q), seeByWords(c, s, q)
				if !sameSafe(got, want) {
					t.Fatalf("See(%v, %v, %v) = %v, want %v", c, s, q, got, want)
				}
				if got.High.View > s.High.View {
					later++
				}
				if got.Lock > s.Lock {
					locked++
				}
				if got.Done != s.Done {
					settled++
				}
			}
		}
	}
	if later < 1000 || locked < 1000 || settled < 500 {
		t.Errorf("%d were later, %d locked more, %d settled more", later, locked, settled)
	}
}

// TestSeeInAnyOrder sees certificates of different views, all that are settled
// on one chain, in every order.
func TestSeeInAnyOrder(t *testing.T) {
	c := impl.Conf{N: 4, Fan: 2}
	cases := []struct {
		name  string
		names []string
		want  impl.Safe
	}{
		{"two of one chain", []string{"/1|/2|/3|", "/1|/2|/3|/4|"}, safeOf(0, 3, enoughQc(c, "/1|/2|/3|/4|"), "/1|/2|")},
		{"all of one chain", []string{"", "/1|", "/1|/2|", "/1|/2|/3|", "/1|/2|/3|/4|", "/1|/2|/3|/4|/5|"}, safeOf(0, 4, enoughQc(c, "/1|/2|/3|/4|/5|"), "/1|/2|/3|")},
		{"a chain and a later block beside it", []string{"/1|/2|", "/1|/2|/3|", "/30|"}, safeOf(0, 2, enoughQc(c, "/30|"), "/1|")},
		{"a chain with gaps", []string{"/1|/3|", "/1|/3|/4|", "/1|/3|/4|/6|"}, safeOf(0, 4, enoughQc(c, "/1|/3|/4|/6|"), "")},
		{"a chain that parts", []string{"/1|/2|/3|", "/1|/2|/3|0>1:5#0/4|", "/1|/2|/5|/6|/7|"}, safeOf(0, 6, enoughQc(c, "/1|/2|/5|/6|/7|"), "/1|/2|/5|")},
	}
	for _, k := range cases {
		for _, order := range orders(len(k.names)) {
			s := impl.SafeNew()
			for _, at := range order {
				s = impl.See(c, s, enoughQc(c, k.names[at]))
			}
			if !sameSafe(s, k.want) {
				t.Fatalf("%s, in the order %v: %v, want %v", k.name, order, s, k.want)
			}
			for _, at := range order {
				if again := impl.See(c, s, enoughQc(c, k.names[at])); !sameSafe(again, s) {
					t.Fatalf("%s: %q seen again makes %v of %v", k.name, k.names[at], again, s)
				}
			}
		}
	}
}

// TestTheFirstOfOneViewStays sees two certificates of one view, and two chains
// that are settled apart: what was there first stays, in either order.
func TestTheFirstOfOneViewStays(t *testing.T) {
	c := impl.Conf{N: 4, Fan: 2}
	a, b := qcOf(3, "/1|/2|/3|", 0, 1, 2), qcOf(3, "/1|0>1:5#0/2|/3|", 1, 2, 3)
	for _, pair := range [][2]impl.Qc{{a, b}, {b, a}} {
		done, _ := settlesByWords(pair[0].Name)
		once := impl.See(c, impl.SafeNew(), pair[0])
		if both := impl.See(c, once, pair[1]); !sameSafe(both, safeOf(0, 2, pair[0], done)) {
			t.Errorf("%v, then %v: %v", pair[0], pair[1], both)
		}
	}
}

func TestMayVote(t *testing.T) {
	four := impl.Conf{N: 4, Fan: 2}
	first, three := impl.QcFirst(), qcOf(3, "/1|/2|/3|", 0, 1, 2)
	five := blockOf("/1|/2|/3|/5|", three)
	cases := []struct {
		name string
		c    impl.Conf
		s    impl.Safe
		b    impl.Block
		want bool
	}{
		{"the first block", four, impl.SafeNew(), blockOf("/1|", first), true},
		{"the first block, with an empty list", four, impl.SafeNew(), blockOf("/1|", impl.Qc{Who: []int{}}), true},
		{"the first block, a later view", four, impl.SafeNew(), blockOf("/60|0>1:5#0", first), true},
		{"a later one", four, safeOf(3, 2, three, "/1|"), five, true},
		{"a later one, of a new Safe", four, impl.SafeNew(), five, true},

		{"its view is below Voted", four, safeOf(6, 2, three, "/1|"), five, false},
		{"its view is Voted", four, safeOf(5, 2, three, "/1|"), five, false},
		{"its view is one above Voted", four, safeOf(4, 2, three, "/1|"), five, true},
		{"its view is far above Voted", four, safeOf(0, 2, three, "/1|"), five, true},
		{"the last view, one above Voted", four, safeOf(59, 0, first, ""), blockOf("/60|", first), true},
		{"the last view is Voted", four, safeOf(60, 0, first, ""), blockOf("/60|", first), false},
		{"more digits than Voted", four, safeOf(9, 0, first, ""), blockOf("/10|", first), true},
		{"fewer digits than Voted", four, safeOf(10, 0, first, ""), blockOf("/9|", first), false},

		{"its Qc is below Lock", four, safeOf(3, 4, three, "/1|"), five, false},
		{"its Qc is far below Lock", four, safeOf(3, 60, three, "/1|"), five, false},
		{"its Qc is at Lock", four, safeOf(3, 3, three, "/1|"), five, true},
		{"its Qc is above Lock", four, safeOf(3, 2, three, "/1|"), five, true},
		{"on the beginning, Lock 0", four, safeOf(3, 0, three, "/1|"), blockOf("/5|", first), true},
		{"on the beginning, Lock 1", four, safeOf(3, 1, three, "/1|"), blockOf("/5|", first), false},
		{"its own view is at Lock, its Qc below", four, safeOf(3, 5, three, "/1|"), five, false},
		{"its Qc is below Lock, its view is Voted", four, safeOf(5, 4, three, "/1|"), five, false},

		{"its Qc is below High", four, safeOf(3, 3, qcOf(4, "/4|", 0, 1, 2), ""), five, true},
		{"its Qc is another one of the View of High", four, safeOf(3, 3, qcOf(3, "/3|", 0, 1, 2), ""), five, true},
		{"it stands beside Done", four, safeOf(3, 3, three, "/2|"), five, true},
		{"its view is below High", four, safeOf(3, 3, qcOf(30, "/30|", 0, 1, 2), ""), five, true},

		{"zero", four, impl.SafeNew(), impl.Block{}, false},
		{"no name", four, impl.SafeNew(), blockOf("x", first), false},
		{"not a step behind its Qc", four, impl.SafeNew(), blockOf("/1|/2|/3|/4|/5|", three), false},
		{"its Qc's own name", four, impl.SafeNew(), blockOf("/1|/2|/3|", three), false},
		{"the View of its Qc", four, impl.SafeNew(), blockOf("/1|/2|/3|/3|", three), false},
		{"above MaxView", four, impl.SafeNew(), blockOf("/1|/2|/3|/61|", three), false},
		{"a Qc of too few", four, impl.SafeNew(), blockOf("/1|/2|/3|/5|", qcOf(3, "/1|/2|/3|", 0, 1)), false},
		{"a Qc of another View", four, impl.SafeNew(), blockOf("/1|/2|/3|/5|", qcOf(4, "/1|/2|/3|", 0, 1, 2)), false},
		{"a Qc of enough of four, of five", impl.Conf{N: 5, Fan: 2}, impl.SafeNew(), five, false},

		{"Voted -1", four, safeOf(-1, 0, first, ""), five, false},
		{"Lock -1", four, safeOf(0, -1, first, ""), five, false},
		{"Voted above MaxView", four, safeOf(61, 0, first, ""), five, false},
		{"Lock above MaxView", four, safeOf(0, 61, first, ""), five, false},
		{"High that is not QcOk", four, safeOf(0, 0, qcOf(3, "/3|", 0, 1), ""), five, false},
		{"Done that is no name", four, safeOf(0, 0, first, "x"), five, false},
		{"the Conf zero", impl.Conf{}, impl.SafeNew(), blockOf("/1|", first), false},
		{"N one too few", impl.Conf{N: 3, Fan: 2}, impl.SafeNew(), blockOf("/1|", first), false},
		{"N one too many", impl.Conf{N: 8, Fan: 2}, impl.SafeNew(), blockOf("/1|", first), false},
		{"Fan one too few", impl.Conf{N: 4, Fan: 0}, impl.SafeNew(), blockOf("/1|", first), false},
		{"Fan one too many", impl.Conf{N: 4, Fan: 7}, impl.SafeNew(), blockOf("/1|", first), false},
	}
	for _, x := range cases {
		if got := impl.MayVote(x.c, x.s, x.b); got != x.want {
			t.Errorf("%s: MayVote(%v, %v, %v) = %v", x.name, x.c, x.s, x.b, got)
		}
		want := x.s
		if x.want {
			want.Voted = viewByWords(x.b.Name)
		}
		if got, ok := impl.Vote(x.c, x.s, x.b); ok != x.want || !sameSafe(got, want) {
			t.Errorf("%s: Vote(%v, %v, %v) = %v, %v, want %v", x.name, x.c, x.s, x.b, got, ok, want)
		}
		if got := mayVoteByWords(x.c, x.s, x.b); got != x.want {
			t.Errorf("%s: the second reading is %v", x.name, got)
		}
	}
}

// checkVote holds one vote against the document's words, and a second one in
// the same view against promise 11. It tells whether it was voted.
func checkVote(t *testing.T, c impl.Conf, s impl.Safe, b impl.Block) bool {
	t.Helper()
	want, wantOk := voteByWords(c, s, b)
	if impl.MayVote(c, s, b) != wantOk {
		t.Fatalf("MayVote(%v, %v, %v) is not %v", c, s, b, wantOk)
	}
	got, ok := impl.Vote(c, s, b)
	if ok != wantOk || !sameSafe(got, want) {
		t.Fatalf("Vote(%v, %v, %v) = %v, %v, want %v, %v", c, s, b, got, ok, want, wantOk)
	}
	if again, twice := impl.Vote(c, got, b); twice || !sameSafe(again, got) {
		t.Fatalf("Vote(%v, %v, %v) the second time = %v, %v", c, s, b, again, twice)
	}
	return ok
}

func TestVotesAsTheWordsSay(t *testing.T) {
	voted, refused := 0, 0
	for _, c := range []impl.Conf{{N: 4, Fan: 2}, {N: 7, Fan: 6}, {N: 3, Fan: 2}, {N: 4, Fan: 7}} {
		for _, s := range append(allSafes(c), impl.SafeNew()) {
			for _, b := range allBlocks(impl.Conf{N: max(c.N, 4), Fan: 2}) {
				if checkVote(t, c, s, b) {
					voted++
				} else {
					refused++
				}
			}
		}
	}
	if voted < 1000 || refused < 1000 {
		t.Errorf("%d votes, %d refused", voted, refused)
	}
}

// TestVotesAtEachView moves Voted and Lock past a block's view and its Qc's.
func TestVotesAtEachView(t *testing.T) {
	c := impl.Conf{N: 4, Fan: 2}
	for on := range 59 {
		q := enoughQc(c, "")
		if on > 0 {
			q = enoughQc(c, nameByWords(chainOf(on)))
		}
		b := blockOf(q.Name+nameByWords([]impl.Step{{View: on + 2}}), q)
		for at := -1; at <= 61; at++ {
			right := at >= 0 && at <= 60
			if got := impl.MayVote(c, safeOf(at, 0, impl.QcFirst(), ""), b); got != (right && at < on+2) {
				t.Fatalf("MayVote of %v, voted in %d: %v", b, at, got)
			}
			if got := impl.MayVote(c, safeOf(0, at, impl.QcFirst(), ""), b); got != (right && at <= on) {
				t.Fatalf("MayVote of %v, locked at %d: %v", b, at, got)
			}
		}
	}
}

// TestNoSecondVoteInAView has two blocks of one view: whichever comes first, the
// other one is refused.
func TestNoSecondVoteInAView(t *testing.T) {
	c := impl.Conf{N: 4, Fan: 2}
	one := enoughQc(c, "/1|")
	blocks := []impl.Block{blockOf("/1|/4|", one), blockOf("/1|/4|0>1:5#0", one), blockOf("/4|", impl.QcFirst())}
	for _, order := range orders(len(blocks)) {
		s, ok := impl.Vote(c, impl.SafeNew(), blocks[order[0]])
		if !ok || !sameSafe(s, safeOf(4, 0, impl.QcFirst(), "")) {
			t.Fatalf("the order %v: %v, %v", order, s, ok)
		}
		for _, at := range order {
			if again, twice := impl.Vote(c, s, blocks[at]); twice || impl.MayVote(c, s, blocks[at]) || !sameSafe(again, s) {
				t.Fatalf("%v, then %v: %v, %v", blocks[order[0]], blocks[at], again, twice)
			}
		}
		if _, ok := impl.Vote(c, s, blockOf("/1|/3|", one)); ok {
			t.Fatal("a view below that is voted for")
		}
		if next, ok := impl.Vote(c, s, blockOf("/1|/5|", one)); !ok || next.Voted != 5 {
			t.Fatal("the view above that is not voted for")
		}
	}
}

// checkForward holds what was held to before a call against what is behind it.
func checkForward(t *testing.T, c impl.Conf, before, after impl.Safe) {
	t.Helper()
	if after.Voted < before.Voted || after.Lock < before.Lock || after.High.View < before.High.View {
		t.Fatalf("%v goes back to %v", before, after)
	}
	if !beginsWith(after.Done, before.Done) {
		t.Fatalf("what was settled of %v is not the beginning of that of %v", before, after)
	}
	if !impl.SafeOk(c, after) {
		t.Fatalf("%v is no Safe", after)
	}
}

// goOn does all that may be done with s, so many deep, and tells how often
// something was turned.
func goOn(t *testing.T, c impl.Conf, s impl.Safe, qcs []impl.Qc, blocks []impl.Block, deep int) int {
	t.Helper()
	if deep == 0 {
		return 0
	}
	turned := 0
	next := func(after impl.Safe) {
		checkForward(t, c, s, after)
		if !sameSafe(after, s) {
			turned += 1 + goOn(t, c, after, qcs, blocks, deep-1)
		}
	}
	for _, q := range qcs {
		next(impl.See(c, s, q))
	}
	for _, b := range blocks {
		after, ok := impl.Vote(c, s, b)
		if ok != (after.Voted > s.Voted) {
			t.Fatalf("Vote(%v, %v) = %v, %v", s, b, after, ok)
		}
		next(after)
	}
	return turned
}

// TestNothingHeldToGoesBack sees and votes for a few in any order: two chains
// that part, blocks of one view, gaps, and what is not right.
func TestNothingHeldToGoesBack(t *testing.T) {
	c := impl.Conf{N: 4, Fan: 2}
	var qcs []impl.Qc
	for _, name := range []string{"", "/1|/2|", "/1|/2|/3|", "/1|/2|/3|/4|", "/1|/2|/3|0>1:5#0/4|", "/1|/2|/3|0>1:5#0/4|/5|", "/2|/3|/4|", "/1|/2|/4|/5|", "/30|"} {
		qcs = append(qcs, enoughQc(c, name))
	}
	qcs = append(qcs, wrongQcs()[:3]...)
	blocks := []impl.Block{
		blockOf("/1|", impl.QcFirst()), blockOf("/5|", impl.QcFirst()), blockOf("/1|/2|/3|", qcs[1]), blockOf("/1|/2|/3|0>1:5#0", qcs[1]),
		blockOf("/1|/2|/3|/4|/5|", qcs[3]), blockOf("/1|/2|/3|0>1:5#0/4|/6|", qcs[4]), blockOf("/30|/31|", qcs[8]), blockOf("/1|/2|/3|/60|", wrongQcs()[0]),
	}
	if turned := goOn(t, c, impl.SafeNew(), qcs, blocks, 4); turned < 1000 {
		t.Errorf("only %d were turned", turned)
	}
	for _, s := range rightSafes(c) {
		goOn(t, c, s, qcs, blocks, 2)
	}
}

// TestThreeOfViewsInARowSettleTheFirst makes a chain, block by block, votes for
// each and sees it certified.
func TestThreeOfViewsInARowSettleTheFirst(t *testing.T) {
	cases := []struct {
		name  string
		views []int
		done  []int // behind each block, how many steps are settled
	}{
		{"in a row", []int{1, 2, 3, 4, 5, 6}, []int{0, 0, 1, 2, 3, 4}},
		{"in a row, from a later view on", []int{8, 9, 10, 11}, []int{0, 0, 1, 2}},
		{"up to the last view", []int{57, 58, 59, 60}, []int{0, 0, 1, 2}},
		{"each other view", []int{1, 3, 5, 7, 9, 11}, []int{0, 0, 0, 0, 0, 0}},
		{"two in a row, again and again", []int{1, 2, 4, 5, 7, 8, 10}, []int{0, 0, 0, 0, 0, 0, 0}},
		{"a gap, then three in a row", []int{1, 3, 4, 5}, []int{0, 0, 0, 2}},
		{"three in a row, a gap, three in a row", []int{1, 2, 3, 5, 6, 7}, []int{0, 0, 1, 1, 1, 4}},
		{"three in a row, then a gap", []int{2, 3, 4, 60}, []int{0, 0, 1, 1}},
		{"as high as can be", viewsFrom(31, 30), append([]int{0, 0}, viewsFrom(1, 28)...)},
	}
	for _, k := range cases {
		for _, c := range rightConfs() {
			s, q := impl.SafeNew(), impl.QcFirst()
			names := []string{""}
			for i, step := range chainOf(k.views...) {
				b, ok := impl.BlockNew(c, q, step.View, step.Txs)
				if !ok || !checkVote(t, c, s, b) {
					t.Fatalf("%s: block %d is not voted for", k.name, i)
				}
				voted, _ := impl.Vote(c, s, b)
				checkForward(t, c, s, voted)
				q = enoughQc(c, b.Name)
				s = impl.See(c, voted, q)
				checkForward(t, c, voted, s)
				names = append(names, b.Name)
				lock := 0
				if i > 0 {
					lock = k.views[i-1]
				}
				if want := safeOf(step.View, lock, q, names[k.done[i]]); !sameSafe(s, want) {
					t.Fatalf("%s, behind block %d: %v, want %v", k.name, i, s, want)
				}
			}
		}
	}
}

// TestWhatIsLockedIsNotLeft sees a chain of two locked in: a block that stands
// below the lock is refused from then on, on whatever chain it is.
func TestWhatIsLockedIsNotLeft(t *testing.T) {
	c := impl.Conf{N: 4, Fan: 2}
	s := impl.See(c, impl.SafeNew(), enoughQc(c, "/1|/4|/5|"))
	for _, x := range []struct {
		on   string
		want bool
	}{
		{"", false}, {"/1|", false}, {"/3|", false}, {"/1|/2|/3|", false},
		{"/4|", true}, {"/1|/4|", true}, {"/1|/4|0>1:5#0", true}, {"/5|", true}, {"/1|/4|/5|", true}, {"/30|", true},
	} {
		if got := impl.MayVote(c, s, blockOf(x.on+"/60|", enoughQc(c, x.on))); got != x.want {
			t.Errorf("locked at %d, on %q: %v", s.Lock, x.on, got)
		}
	}
}

func safeWithRoom(s impl.Safe) (impl.Safe, []int) {
	high, whole := qcWithRoom(s.High)
	return safeOf(s.Voted, s.Lock, high, s.Done), whole
}

// checkSafeMemory calls twice: the second answer has to stay, whatever happens
// to the first one and to both arguments, whose lists are whole.
func checkSafeMemory(t *testing.T, name string, call func() impl.Safe, whole ...[]int) {
	t.Helper()
	var before [][]int
	for _, list := range whole {
		before = append(before, slices.Clone(list))
	}
	got, again := call(), call()
	want := cloneSafe(got)
	if !slices.EqualFunc(whole, before, slices.Equal) {
		t.Fatalf("%s wrote into an argument: %v", name, before)
	}
	spoilInts(got.High.Who)
	if !slices.EqualFunc(whole, before, slices.Equal) {
		t.Fatalf("%s shares memory with an argument: %v", name, before)
	}
	if !sameSafe(again, want) {
		t.Fatalf("%s: an answer shares memory with an earlier one: %v", name, want)
	}
	for _, list := range whole {
		spoilInts(list)
	}
	if !sameSafe(again, want) {
		t.Fatalf("%s: an answer changes with an argument: %v", name, want)
	}
}

func TestSafesAreNewMemory(t *testing.T) {
	c := impl.Conf{N: 4, Fan: 2}
	for _, s := range allSafes(c) {
		for _, q := range slices.Concat(rightQcs(c), wrongQcs()) {
			given, wholeSafe := safeWithRoom(s)
			givenQc, wholeQc := qcWithRoom(q)
			checkSafeMemory(t, "See", func() impl.Safe {
				impl.SafeOk(c, given)
				impl.SafeSame(given, impl.Safe{High: givenQc})
				return impl.See(c, given, givenQc)
			}, wholeSafe, wholeQc)
		}
		for _, b := range allBlocks(c) {
			given, wholeSafe := safeWithRoom(s)
			givenQc, wholeQc := qcWithRoom(b.Qc)
			checkSafeMemory(t, "Vote", func() impl.Safe {
				impl.MayVote(c, given, blockOf(b.Name, givenQc))
				got, _ := impl.Vote(c, given, blockOf(b.Name, givenQc))
				return got
			}, wholeSafe, wholeQc)
		}
	}
}

// TestSeeOfItsOwnHigh hands in one list twice, as that of High and as that of
// the certificate.
func TestSeeOfItsOwnHigh(t *testing.T) {
	c := impl.Conf{N: 4, Fan: 2}
	who := []int{0, 1, 2, 3}
	for _, q := range []impl.Qc{qcOf(3, "/1|/2|/3|", who[:3]...), qcOf(4, "/4|", who...), qcOf(2, "/2|", who[:3]...)} {
		s := safeOf(0, 0, qcOf(3, "/1|/2|/3|", who[:3]...), "")
		got := impl.See(c, s, q)
		if !sameSafe(got, seeByWords(c, s, q)) {
			t.Errorf("See(%v, %v) = %v", s, q, got)
		}
		spoilInts(got.High.Who)
		voted, _ := impl.Vote(c, s, blockOf(q.Name+"/5|", q))
		spoilInts(voted.High.Who)
	}
	if !slices.Equal(who, []int{0, 1, 2, 3}) {
		t.Errorf("what both share was written into: %v", who)
	}
}

// TestSafesDoNotReadBehindWho hands in lists with the one behind them who would
// make them enough.
func TestSafesDoNotReadBehindWho(t *testing.T) {
	c := impl.Conf{N: 4, Fan: 2}
	who := []int{0, 1, 2, 3}
	few, enough := qcOf(3, "/1|/2|/3|", who[:2]...), qcOf(3, "/1|/2|/3|", who[:3]...)
	if impl.SafeOk(c, safeOf(0, 0, few, "")) || !impl.SafeOk(c, safeOf(0, 0, qcOf(0, "", who[:0]...), "")) {
		t.Error("what stands behind Who counts for SafeOk")
	}
	if impl.SafeSame(safeOf(0, 0, few, ""), safeOf(0, 0, enough, "")) || !impl.SafeSame(impl.SafeNew(), safeOf(0, 0, qcOf(0, "", who[:0]...), "")) {
		t.Error("what stands behind Who counts for SafeSame")
	}
	if got := impl.See(c, impl.SafeNew(), few); !sameSafe(got, impl.SafeNew()) {
		t.Error(got)
	}
	if got := impl.See(c, impl.SafeNew(), enough); len(got.High.Who) != 3 {
		t.Error(got)
	}
	if impl.MayVote(c, impl.SafeNew(), blockOf("/1|/2|/3|/4|", few)) {
		t.Error("what stands behind Who counts for MayVote")
	}
}

// TestGreatSafes has names and voters far beyond what is right: they are
// refused, or told as they are.
func TestGreatSafes(t *testing.T) {
	c := impl.Conf{N: 4, Fan: 2}
	who, name := viewsFrom(0, 50000), strings.Repeat("/1|", 50000)
	great := qcOf(1, name, who...)
	for _, s := range []impl.Safe{safeOf(0, 0, great, ""), safeOf(0, 0, impl.QcFirst(), name), safeOf(0, 0, qcOf(1, "/1|", who...), "")} {
		seen := impl.See(c, s, enoughQc(c, "/1|/2|/3|"))
		voted, ok := impl.Vote(c, s, blockOf("/1|", impl.QcFirst()))
		if impl.SafeOk(c, s) || ok || !sameSafe(seen, s) || !sameSafe(voted, s) || !impl.SafeSame(s, cloneSafe(s)) {
			t.Error("a great Safe")
		}
	}
	if got := impl.See(c, impl.SafeNew(), great); !sameSafe(got, impl.SafeNew()) {
		t.Error("See of a great certificate")
	}
	if impl.MayVote(c, impl.SafeNew(), blockOf(name+"/2|", great)) || impl.MayVote(c, impl.SafeNew(), blockOf(name, impl.QcFirst())) {
		t.Error("MayVote for a great block")
	}
	if got, ok := impl.Settles(name); ok || got != "" {
		t.Error("Settles of a great name")
	}
	if got, ok := impl.Settles(name + "/1|/2|/3|"); ok || got != "" {
		t.Error("Settles of a great name that ends with three in a row")
	}
}
