package tests

import (
	"math"
	"slices"
	"strings"
	"sync"
	"testing"

	"loop.example/g00448/impl"
)

// tellByWords and those behind it are a second reading of what the document
// says.
func tellByWords(c impl.Conf, r impl.Rep, to int, m impl.Msg) (impl.Rep, bool) {
	after := r
	after.Held = append(clonePosts(r.Held), postOf(to, m))
	if !repOkByWords(c, after) {
		return r, false
	}
	return after, true
}

func tellAllByWords(c impl.Conf, r impl.Rep, m impl.Msg) (impl.Rep, bool) {
	if !repOkByWords(c, r) {
		return r, false
	}
	after := r
	for to := 0; to < c.N; to++ {
		if to == r.Id {
			continue
		}
		next, ok := tellByWords(c, after, to, m)
		if !ok {
			return r, false
		}
		after = next
	}
	return after, true
}

func climbByWords(c impl.Conf, r impl.Rep, view int, name string, push bool) (impl.Rep, bool) {
	p := tableGetByWords(r.Table, view, name)
	if !repOkByWords(c, r) || name == "" || len(p.Who) == 0 {
		return r, false
	}
	if rootByWords(c, view) == r.Id {
		return certifyByWords(c, r, p)
	}
	all := true
	for _, i := range underByWords(c, view, r.Id) {
		all = all && setHasByWords(p.Who, i)
	}
	if !push && !all {
		return r, false
	}
	return tellByWords(c, r, upByWords(c, view, r.Id), partMsg(p))
}

func certifyByWords(c impl.Conf, r impl.Rep, p impl.Part) (impl.Rep, bool) {
	q, enough := partQcByWords(c, p)
	if !enough {
		return r, false
	}
	after, wrote := writeByWords(c, r, seeByWords(c, r.Safe, q))
	if !wrote {
		return r, false
	}
	next := p.View + 1
	if next > after.View && next <= 60 {
		after.View = next
	}
	if to := rootByWords(c, next); to != r.Id && next <= 60 {
		told, ok := tellByWords(c, after, to, viewMsg(next, r.Id, q))
		if !ok {
			return r, false
		}
		after = told
	}
	return after, true
}

func askByWords(c impl.Conf, r impl.Rep) (impl.Block, bool) {
	if !repOkByWords(c, r) || rootByWords(c, r.View) != r.Id || r.Asked >= r.View {
		return impl.Block{}, false
	}
	late := len(tableGetByWords(r.Table, r.View, "").Who)
	if r.Safe.High.View+1 != r.View && late < enoughOf(c.N) {
		return impl.Block{}, false
	}
	l := ledgerOf([]int{100, 100, 100, 100}, []int{0, 0, 0, 0})
	steps, _ := stepsByWords(r.Safe.High.Name)
	for _, step := range steps {
		for _, x := range step.Txs {
			l, _ = payByWords(l, x)
		}
	}
	return blockNewByWords(c, r.Safe.High, r.View, takeByWords(r.Pool, l))
}

func lateByWords(c impl.Conf, r impl.Rep) (impl.Rep, bool) {
	if !repOkByWords(c, r) || r.View == 60 {
		return r, false
	}
	after := r
	after.View = r.View + 1
	to := rootByWords(c, after.View)
	if to != r.Id {
		told, ok := tellByWords(c, after, to, viewMsg(after.View, r.Id, r.Safe.High))
		if !ok {
			return r, false
		}
		return told, true
	}
	table, ok := tableAddByWords(c, r.Table, partOf(after.View, "", r.Id))
	if !ok {
		return r, false
	}
	after.Table = table
	return after, true
}

func sureNowByWords(c impl.Conf, r impl.Rep) (impl.Rep, []impl.Post) {
	if !repOkByWords(c, r) {
		return r, nil
	}
	after := r
	after.Disk, after.Held = diskOf(string(r.Disk.Bytes), len(r.Disk.Bytes)), nil
	return after, r.Held
}

func checkTell(t *testing.T, c impl.Conf, r impl.Rep, to int, m impl.Msg) impl.Rep {
	t.Helper()
	got, ok := impl.Tell(c, r, to, m)
	want, wantOk := tellByWords(c, r, to, m)
	if ok != wantOk || !sameRep(got, want) {
		t.Fatalf("Tell(%v, %v, %d, %v) = %v, %v, want %v, %v", c, r, to, m, got, ok, want, wantOk)
	}
	return got
}

func checkTellAll(t *testing.T, c impl.Conf, r impl.Rep, m impl.Msg) impl.Rep {
	t.Helper()
	got, ok := impl.TellAll(c, r, m)
	want, wantOk := tellAllByWords(c, r, m)
	if ok != wantOk || !sameRep(got, want) {
		t.Fatalf("TellAll(%v, %v, %v) = %v, %v, want %v, %v", c, r, m, got, ok, want, wantOk)
	}
	return got
}

func checkClimb(t *testing.T, c impl.Conf, r impl.Rep, view int, name string, push bool) bool {
	t.Helper()
	got, ok := impl.Climb(c, r, view, name, push)
	want, wantOk := climbByWords(c, r, view, name, push)
	if ok != wantOk || !sameRep(got, want) {
		t.Fatalf("Climb(%v, %v, %d, %q, %v) = %v, %v, want %v, %v", c, r, view, name, push, got, ok, want, wantOk)
	}
	return ok
}

func checkAsk(t *testing.T, c impl.Conf, r impl.Rep) bool {
	t.Helper()
	got, ok := impl.Ask(c, r)
	want, wantOk := askByWords(c, r)
	if ok != wantOk || !sameBlock(got, want) {
		t.Fatalf("Ask(%v, %v) = %v, %v, want %v, %v", c, r, got, ok, want, wantOk)
	}
	return ok
}

func checkLate(t *testing.T, c impl.Conf, r impl.Rep) impl.Rep {
	t.Helper()
	got, ok := impl.Late(c, r)
	want, wantOk := lateByWords(c, r)
	if ok != wantOk || !sameRep(got, want) {
		t.Fatalf("Late(%v, %v) = %v, %v, want %v, %v", c, r, got, ok, want, wantOk)
	}
	return got
}

func checkSureNow(t *testing.T, c impl.Conf, r impl.Rep) impl.Rep {
	t.Helper()
	got, list := impl.SureNow(c, r)
	want, wantList := sureNowByWords(c, r)
	if !samePosts(list, wantList) || !sameRep(got, want) {
		t.Fatalf("SureNow(%v, %v) = %v, %v, want %v, %v", c, r, got, list, want, wantList)
	}
	return got
}

func TestTell(t *testing.T) {
	four, seven := impl.Conf{N: 4, Fan: 2}, impl.Conf{N: 7, Fan: 6}
	block, x := fewMsgs()[0], fewMsgs()[6]
	turned := func(turn func(*impl.Rep)) impl.Rep {
		r := busyRep()
		turn(&r)
		return r
	}
	holds := func(many int) impl.Rep {
		return turned(func(r *impl.Rep) { r.Held = heldTimes(many, busyPosts()...) })
	}
	cases := []struct {
		name string
		c    impl.Conf
		r    impl.Rep
		to   int
		m    impl.Msg
		want bool
	}{
		{"a block", four, busyRep(), 1, block, true},
		{"the first block", four, busyRep(), 1, fewMsgs()[1], true},
		{"a part", four, busyRep(), 1, fewMsgs()[2], true},
		{"a part of all", four, busyRep(), 1, fewMsgs()[3], true},
		{"a view", four, busyRep(), 1, fewMsgs()[4], true},
		{"a view of another one", four, busyRep(), 1, viewMsg(3, 1, impl.QcFirst()), true},
		{"a payment", four, busyRep(), 1, x, true},
		{"to 0", four, busyRep(), 0, x, true},
		{"to N - 1", four, busyRep(), 3, x, true},
		{"from 0", four, keptRep(0), 3, x, true},
		{"from N - 1", four, keptRep(3), 0, x, true},
		{"to N - 1 of seven", seven, keptRep(0), 6, x, true},
		{"the same as is held", four, busyRep(), 0, fewMsgs()[0], true},
		{"the first one", four, holds(0), 1, x, true},
		{"the last one", four, holds(mostHeld - 1), 1, x, true},

		{"to itself", four, busyRep(), 2, x, false},
		{"from 0 to itself", four, keptRep(0), 0, x, false},
		{"to -1", four, busyRep(), -1, x, false},
		{"to N", four, busyRep(), 4, x, false},
		{"to N of seven", seven, keptRep(0), 7, x, false},
		{"to the least", four, busyRep(), math.MinInt, x, false},
		{"to the greatest", four, busyRep(), math.MaxInt, x, false},
		{"to the same low bits", four, busyRep(), 1<<32 + 1, x, false},
		{"one too many", four, holds(mostHeld), 1, x, false},
		{"far too many", four, holds(3 * mostHeld), 1, x, false},
		{"no message", four, busyRep(), 1, impl.Msg{}, false},
		{"no kind", four, busyRep(), 1, impl.Msg{Kind: 5, Tx: x.Tx}, false},
		{"no block", four, busyRep(), 1, blockMsg(blockOf("/3|", qcOf(2, "/2|", 0, 1, 3))), false},
		{"a part without a name", four, busyRep(), 1, partMsg(partOf(3, "", 1)), false},
		{"a view above MaxView", four, busyRep(), 1, viewMsg(61, 2, impl.QcFirst()), false},
		{"a view of nobody", four, busyRep(), 1, viewMsg(3, 4, impl.QcFirst()), false},
		{"no payment", four, busyRep(), 1, txMsg(impl.Tx{Amount: 1001}), false},
		{"a block with a payment", four, busyRep(), 1, impl.Msg{Kind: kindBlock, Block: block.Block, Tx: x.Tx}, false},
		{"a certificate of too few of seven", seven, keptRep(0), 1, block, false},
		{"not RepOk: zero of no Conf", impl.Conf{}, impl.Rep{}, 1, x, false},
		{"not RepOk: a Conf of three", impl.Conf{N: 3, Fan: 2}, keptRep(0), 1, x, false},
		{"not RepOk: Id", four, turned(func(r *impl.Rep) { r.Id = 4 }), 1, x, false},
		{"not RepOk: View", four, turned(func(r *impl.Rep) { r.View = 0 }), 1, x, false},
		{"not RepOk: Asked", four, turned(func(r *impl.Rep) { r.Asked = 61 }), 1, x, false},
		{"not RepOk: Safe", four, turned(func(r *impl.Rep) { r.Safe.Voted = -1 }), 1, x, false},
		{"not RepOk: Pool", four, turned(func(r *impl.Rep) { r.Pool[0].From = 4 }), 1, x, false},
		{"not RepOk: Table", four, turned(func(r *impl.Rep) { r.Table[0].Who = nil }), 1, x, false},
		{"not RepOk: Disk", four, turned(func(r *impl.Rep) { r.Disk.Sure = -1 }), 1, x, false},
		{"not RepOk: Held", four, turned(func(r *impl.Rep) { r.Held[3].To = 2 }), 1, x, false},
	}
	for _, k := range cases {
		got, ok := impl.Tell(k.c, k.r, k.to, k.m)
		want := cloneRep(k.r)
		if k.want {
			want.Held = append(want.Held, postOf(k.to, k.m))
		}
		if ok != k.want || !sameRep(got, want) {
			t.Errorf("%s: Tell = %v, held %v", k.name, ok, got.Held)
		}
		checkTell(t, k.c, k.r, k.to, k.m)
	}
}

func TestTellAsTheWordsSay(t *testing.T) {
	four := impl.Conf{N: 4, Fan: 2}
	for _, r := range allReps() {
		for _, c := range []impl.Conf{four, {N: 7, Fan: 1}, {N: 3, Fan: 2}} {
			for _, to := range []int{-1, 1, 2, 4} {
				checkTell(t, c, r, to, txMsg(impl.Tx{To: 1}))
			}
			checkTellAll(t, c, r, fewMsgs()[1])
		}
	}
	for _, m := range allMsgs(four) {
		checkTell(t, four, keptRep(1), 3, m)
		checkTellAll(t, four, keptRep(1), m)
	}
	for _, c := range allConfs() {
		for _, id := range []int{0, 3, 6} {
			for _, to := range []int{-1, 0, 1, 2, 3, 4, 5, 6, 7, 8} {
				checkTell(t, c, keptRep(id), to, viewMsg(1, 0, impl.QcFirst()))
			}
			checkTellAll(t, c, keptRep(id), viewMsg(1, 0, impl.QcFirst()))
		}
	}
}

// TestTellAll has who is told what, in order, behind what is held already.
func TestTellAll(t *testing.T) {
	for _, c := range rightConfs() {
		for id := range c.N {
			for i, m := range fewMsgs() {
				if !msgOkByWords(c, m) {
					continue
				}
				r := impl.Rep{Id: id, View: 1 + i, Held: []impl.Post{postOf((id+1)%c.N, txMsg(impl.Tx{Nonce: 9}))}}
				want := cloneRep(r)
				for to := range c.N {
					if to != id {
						want.Held = append(want.Held, postOf(to, m))
					}
				}
				got, ok := impl.TellAll(c, r, m)
				if !ok || !sameRep(got, want) || len(got.Held) != c.N {
					t.Fatalf("%v: TellAll of %d = %v, %v", c, id, got.Held, ok)
				}
			}
		}
	}
	c := impl.Conf{N: 4, Fan: 2}
	got, ok := impl.TellAll(c, keptRep(2), fewMsgs()[0])
	want := []impl.Post{postOf(0, fewMsgs()[0]), postOf(1, fewMsgs()[0]), postOf(3, fewMsgs()[0])}
	if !ok || !samePosts(got.Held, want) {
		t.Error(got.Held, ok)
	}
}

func TestTellAllHasRoomForAllOrNone(t *testing.T) {
	for _, c := range []impl.Conf{{N: 4, Fan: 2}, {N: 5, Fan: 1}, {N: 6, Fan: 3}, {N: 7, Fan: 6}} {
		for id := range c.N {
			for many := range mostHeld + 3 {
				r := impl.Rep{Id: id, View: 3, Held: heldTimes(many, postOf((id+2)%c.N, txMsg(impl.Tx{From: 1})))}
				got, ok := impl.TellAll(c, r, fewMsgs()[1])
				room := many+c.N-1 <= mostHeld
				if ok != room || !ok && !sameRep(got, r) || ok && len(got.Held) != many+c.N-1 {
					t.Fatalf("%v: TellAll with %d held = %v, held %d", c, many, ok, len(got.Held))
				}
				checkTellAll(t, c, r, fewMsgs()[1])
			}
		}
	}
}

func TestTellAllOfWhatIsWrong(t *testing.T) {
	c := impl.Conf{N: 4, Fan: 2}
	for _, m := range append(wrongMsgs(), mixedMsgs()...) {
		if msgOkByWords(c, m) {
			continue
		}
		if got, ok := impl.TellAll(c, busyRep(), m); ok || !sameRep(got, busyRep()) {
			t.Fatalf("TellAll of %v = %v", m, ok)
		}
	}
	for i, r := range wrongReps() {
		if got, ok := impl.TellAll(c, r, fewMsgs()[0]); ok || !sameRep(got, r) {
			t.Fatalf("TellAll of wrong one %d = %v", i, ok)
		}
	}
	// Of one replica, or of none, there is no other one to refuse it: what is not
	// RepOk is refused all the same.
	for _, c := range wrongConfs() {
		for _, r := range []impl.Rep{{}, {View: 1}, keptRep(2), busyRep()} {
			if got, ok := impl.TellAll(c, r, fewMsgs()[6]); ok || !sameRep(got, r) {
				t.Fatalf("%v: TellAll = %v, %v", c, got, ok)
			}
		}
	}
}

// rootRep is the root of view 5 of four, at its View 5, and joined the votes of
// these for the block of view 5 behind two others.
func rootRep(who ...int) impl.Rep {
	return impl.Rep{
		Id: 1, View: 5, Asked: 5, Safe: safeOf(5, 3, qcOf(4, "/3|/4|", 0, 1, 2), ""),
		Pool:  []impl.Tx{{From: 1, To: 2, Amount: 3}},
		Table: []impl.Part{partOf(4, "/3|/4|", 1), partOf(5, "", 0, 2), partOf(5, fiveName, who...), partOf(6, "", 1)},
		Held:  []impl.Post{postOf(0, txMsg(impl.Tx{From: 1, To: 2, Amount: 3}))},
	}
}

const fiveName = "/3|/4|/5|0>1:5#0"

func TestClimbAtTheRoot(t *testing.T) {
	c := impl.Conf{N: 4, Fan: 2}
	for _, who := range [][]int{{0, 1, 2}, {1, 2, 3}, {0, 1, 2, 3}} {
		q := qcOf(5, fiveName, who...)
		seen := safeOf(5, 4, q, "/3|")
		want := rootRep(who...)
		want.View, want.Safe, want.Disk = 6, seen, diskOf(string(noteWritten(seen)), 0)
		want.Held = append(want.Held, postOf(2, viewMsg(6, 1, q)))
		for _, push := range []bool{false, true} {
			got, ok := impl.Climb(c, rootRep(who...), 5, fiveName, push)
			if !ok || !sameRep(got, want) || !impl.Kept(c, got) {
				t.Errorf("of %v, pushed %v: Climb = %v, %v", who, push, got, ok)
			}
		}
	}
	for _, who := range [][]int{{1}, {0, 1}, {2, 3}, {0}} {
		for _, push := range []bool{false, true} {
			if got, ok := impl.Climb(c, rootRep(who...), 5, fiveName, push); ok || !sameRep(got, rootRep(who...)) {
				t.Errorf("of %v, pushed %v: Climb = %v, %v", who, push, got, ok)
			}
		}
	}
}

// TestClimbOfNobody asks for what nobody of the table is of.
func TestClimbOfNobody(t *testing.T) {
	c := impl.Conf{N: 4, Fan: 2}
	all := []int{0, 1, 2, 3}
	for _, id := range all {
		r := rootRep(all...)
		r.Id, r.Held = id, nil
		r.Table[1].Who = all
		for _, k := range []struct {
			view int
			name string
		}{
			{5, ""}, {4, ""}, {6, ""}, {0, ""}, {-1, ""}, {61, ""}, {7, "/7|"}, {5, "/5|"}, {4, fiveName}, {6, fiveName}, {9, fiveName}, {-5, fiveName},
			{1<<32 + 5, fiveName}, {5, fiveName + " "}, {5, fiveName[:len(fiveName)-1]}, {5, "x"}, {0, "/"}, {math.MinInt, fiveName}, {math.MaxInt, fiveName},
		} {
			for _, push := range []bool{false, true} {
				if got, ok := impl.Climb(c, r, k.view, k.name, push); ok || !sameRep(got, r) {
					t.Errorf("Climb of %d, view %d, %q = %v, %v", id, k.view, k.name, got, ok)
				}
			}
		}
		if _, ok := impl.Climb(c, r, 5, fiveName, true); !ok {
			t.Errorf("Climb of %d, where all are of it", id)
		}
	}
}

// TestClimbWritesWhatItSees has what is held to turned by the certificate, in
// each of its parts, and not turned at all.
func TestClimbWritesWhatItSees(t *testing.T) {
	c := impl.Conf{N: 4, Fan: 2}
	q := qcOf(5, fiveName, 0, 1, 3)
	later := qcOf(9, "/9|", 0, 1, 2)
	cases := []struct {
		name        string
		held, after impl.Safe
	}{
		{"all of it", safeOf(5, 3, qcOf(4, "/3|/4|", 0, 1, 2), ""), safeOf(5, 4, q, "/3|")},
		{"from nothing", impl.SafeNew(), safeOf(0, 4, q, "/3|")},
		{"High alone", safeOf(5, 4, qcOf(4, "/3|/4|", 0, 1, 2), "/3|"), safeOf(5, 4, q, "/3|")},
		{"Lock alone", safeOf(5, 3, later, "/3|"), safeOf(5, 4, later, "/3|")},
		{"Done alone", safeOf(5, 4, later, ""), safeOf(5, 4, later, "/3|")},
		{"another High of its view stays", safeOf(5, 4, qcOf(5, fiveName, 0, 1, 2), "/3|"), safeOf(5, 4, qcOf(5, fiveName, 0, 1, 2), "/3|")},
		{"the same one is seen already", safeOf(5, 4, q, "/3|"), safeOf(5, 4, q, "/3|")},
		{"later ones are seen already", safeOf(9, 8, later, "/3|/4|"), safeOf(9, 8, later, "/3|/4|")},
		{"another chain is settled", safeOf(9, 8, later, "/9|"), safeOf(9, 8, later, "/9|")},
	}
	for _, k := range cases {
		for _, bytes := range []impl.Disk{{}, diskOf(string(noteWritten(k.held)), 0), diskOf(string(noteWritten(k.held)), 4), diskOf("what is no note", 15)} {
			r := rootRep(0, 1, 3)
			r.Safe, r.Disk = k.held, bytes
			want := cloneRep(r)
			want.View, want.Safe = 6, k.after
			want.Held = append(want.Held, postOf(2, viewMsg(6, 1, q)))
			if !sameSafe(k.held, k.after) {
				want.Disk.Bytes = append(want.Disk.Bytes, noteWritten(k.after)...)
			}
			if got, ok := impl.Climb(c, r, 5, fiveName, false); !ok || !sameRep(got, want) {
				t.Errorf("%s: Climb = %v, %v, want %v", k.name, got, ok, want)
			}
		}
	}
}

// TestClimbAtEachView has the root of a view, with enough, at each View.
func TestClimbAtEachView(t *testing.T) {
	c := impl.Conf{N: 4, Fan: 2}
	for view := 1; view <= 60; view++ {
		name := nameByWords([]impl.Step{{View: view}})
		q := qcOf(view, name, 0, 1, 2)
		for at := 1; at <= 60; at++ {
			r := impl.Rep{Id: view % 4, View: at, Table: []impl.Part{partOf(view, name, 0, 1, 2)}}
			want := cloneRep(r)
			want.Safe = safeOf(0, 0, q, "")
			want.Disk = diskOf(string(noteWritten(want.Safe)), 0)
			if view < 60 {
				want.View = max(at, view+1)
				want.Held = []impl.Post{postOf((view+1)%4, viewMsg(view+1, view%4, q))}
			}
			got, ok := impl.Climb(c, r, view, name, false)
			if !ok || !sameRep(got, want) || !impl.Kept(c, got) {
				t.Fatalf("Climb of view %d at View %d = %v, %v, want %v", view, at, got, ok, want)
			}
		}
	}
}

// TestClimbNeedsRoom has as much room as there must be, and one less: on the
// disk, and for what is told.
func TestClimbNeedsRoom(t *testing.T) {
	c := impl.Conf{N: 4, Fan: 2}
	seen := safeOf(0, 4, qcOf(5, fiveName, 0, 1, 2), "/3|")
	long := len(noteWritten(seen))
	for _, left := range []int{0, 1, long - 1, long, long + 1} {
		for _, many := range []int{0, mostHeld - 1, mostHeld} {
			r := fullBut(left)
			r.View, r.Table, r.Held = 5, rootRep(0, 1, 2).Table, heldTimes(many, postOf(3, txMsg(impl.Tx{})))
			room := left >= long && many < mostHeld
			if got, ok := impl.Climb(c, r, 5, fiveName, false); ok != room || !ok && !sameRep(got, r) {
				t.Errorf("Climb with room for %d bytes and %d held = %v", left, many, ok)
			}
			checkClimb(t, c, r, 5, fiveName, false)
			// What turns nothing needs no room on the disk.
			r.Safe = seen
			if got, ok := impl.Climb(c, r, 5, fiveName, false); ok != (many < mostHeld) || len(got.Disk.Bytes) != len(r.Disk.Bytes) {
				t.Errorf("Climb of what is seen already, with room for %d bytes and %d held = %v", left, many, ok)
			}
			// Nor does what is handed up.
			r.Id, r.Safe = 2, impl.SafeNew()
			if got, ok := impl.Climb(c, r, 5, fiveName, true); ok != (many < mostHeld) || !ok && !sameRep(got, r) {
				t.Errorf("Climb of another one, with room for %d bytes and %d held = %v", left, many, ok)
			}
		}
	}
}

// TestClimbInTheLastView: there is no view to go to, and nobody to tell, so that
// no room to tell is needed; what is certified is written, where there is room.
func TestClimbInTheLastView(t *testing.T) {
	for _, c := range rightConfs() {
		for _, name := range []string{"/60|", "/58|/59|/60|"} {
			who := viewsFrom(0, enoughOf(c.N))
			q := qcOf(60, name, who...)
			for _, at := range []int{1, 59, 60} {
				few := impl.Rep{Id: 60 % c.N, View: at, Table: []impl.Part{partOf(60, name, who[1:]...)}}
				for _, push := range []bool{false, true} {
					if got, ok := impl.Climb(c, few, 60, name, push); ok || !sameRep(got, few) {
						t.Errorf("%v: Climb of too few at View %d = %v, %v", c, at, got, ok)
					}
					full := impl.Rep{Id: 60 % c.N, View: at, Table: []impl.Part{partOf(60, name, who...)}}
					full.Held = heldTimes(mostHeld, postOf((full.Id+1)%c.N, txMsg(impl.Tx{})))
					want := cloneRep(full)
					want.Safe = seeByWords(c, full.Safe, q)
					want.Disk = diskOf(string(noteWritten(want.Safe)), 0)
					got, ok := impl.Climb(c, full, 60, name, push)
					if !ok || !sameRep(got, want) || !impl.Kept(c, got) {
						t.Errorf("%v: Climb of enough at View %d = %v, %v", c, at, got, ok)
					}
					if again, ok := impl.Climb(c, got, 60, name, push); !ok || !sameRep(again, want) {
						t.Errorf("%v: Climb twice at View %d = %v, %v", c, at, again, ok)
					}
				}
			}
		}
	}
	c := impl.Conf{N: 4, Fan: 2}
	seen := safeOf(0, 0, qcOf(60, "/60|", 0, 1, 2), "")
	long := len(noteWritten(seen))
	for _, left := range []int{0, long - 1, long, long + 1} {
		r := fullBut(left)
		r.Id, r.Table = 0, []impl.Part{partOf(60, "/60|", 0, 1, 2)}
		if got, ok := impl.Climb(c, r, 60, "/60|", false); ok != (left >= long) || !ok && !sameRep(got, r) {
			t.Errorf("Climb in the last view with room for %d bytes = %v", left, ok)
		}
		checkClimb(t, c, r, 60, "/60|", false)
	}
}

// TestClimbUp has four in the tree of view 5: 1 above 2 and 3, 2 above 0.
func TestClimbUp(t *testing.T) {
	c := impl.Conf{N: 4, Fan: 2}
	cases := []struct {
		name       string
		id         int
		who        []int
		push, want bool
		up         int
	}{
		{"a leaf, itself", 3, []int{3}, false, true, 1},
		{"a leaf, itself and another one", 3, []int{0, 3}, false, true, 1},
		{"a leaf, another one", 3, []int{0, 1, 2}, false, false, 1},
		{"a leaf, another one, pushed", 3, []int{0, 1, 2}, true, true, 1},
		{"a leaf, all", 3, []int{0, 1, 2, 3}, false, true, 1},
		{"a low leaf, itself", 0, []int{0}, false, true, 2},
		{"a low leaf, the one above it", 0, []int{2}, false, false, 2},
		{"a low leaf, the one above it, pushed", 0, []int{2}, true, true, 2},
		{"all under it", 2, []int{0, 2}, false, true, 1},
		{"all under it and more", 2, []int{0, 2, 3}, false, true, 1},
		{"all under it, pushed", 2, []int{0, 2}, true, true, 1},
		{"itself alone", 2, []int{2}, false, false, 1},
		{"itself alone, pushed", 2, []int{2}, true, true, 1},
		{"without itself", 2, []int{0}, false, false, 1},
		{"without itself, pushed", 2, []int{0}, true, true, 1},
		{"without one under it, but enough", 2, []int{1, 2, 3}, false, false, 1},
		{"as many as are under it, but others", 2, []int{1, 3}, false, false, 1},
		{"as many as are under it, but others, pushed", 2, []int{1, 3}, true, true, 1},
	}
	for _, k := range cases {
		for _, at := range []int{1, 4, 5, 6, 60} {
			r := rootRep(k.who...)
			r.Id, r.View, r.Held = k.id, at, nil
			want := cloneRep(r)
			if k.want {
				want.Held = []impl.Post{postOf(k.up, partMsg(partOf(5, fiveName, k.who...)))}
			}
			if got, ok := impl.Climb(c, r, 5, fiveName, k.push); ok != k.want || !sameRep(got, want) {
				t.Errorf("%s: Climb at View %d = %v, %v", k.name, at, got, ok)
			}
			checkClimb(t, c, r, 5, fiveName, k.push)
		}
	}
}

// TestClimbOfEachSet has each one, with votes of each set, in many trees and
// views.
func TestClimbOfEachSet(t *testing.T) {
	for _, c := range []impl.Conf{{N: 4, Fan: 1}, {N: 4, Fan: 2}, {N: 5, Fan: 6}, {N: 7, Fan: 2}} {
		done, not := 0, 0
		for _, view := range []int{1, 6, 7, 59, 60} {
			name := nameByWords(chainOf(view-1, view))
			if view == 1 {
				name = "/1|"
			}
			for id := range c.N {
				for bits := 1; bits < 1<<c.N; bits++ {
					for i, push := range []bool{false, true} {
						at := []int{1, view - 1, view, view + 1, view + c.N}[(bits+i)%5]
						r := impl.Rep{Id: id, View: max(1, min(at, 60)), Table: []impl.Part{partOf(view, "", 0), partOf(view, name, setOfBits(bits)...)}}
						if checkClimb(t, c, r, view, name, push) {
							done++
						} else {
							not++
						}
					}
				}
			}
		}
		if done < 100 || not < 100 {
			t.Errorf("%v: %d climbed, and %d did not", c, done, not)
		}
	}
}

// TestClimbsAsTheWordsSay goes over each part of each one's table, and what is
// in none.
func TestClimbsAsTheWordsSay(t *testing.T) {
	four := impl.Conf{N: 4, Fan: 2}
	for _, r := range allReps() {
		parts := append(cloneParts(r.Table[:min(len(r.Table), 4)]), partOf(7, "/7|"), partOf(0, ""))
		if len(r.Table) > 10 {
			parts = append(parts, r.Table[7], r.Table[len(r.Table)-1])
		}
		for _, p := range parts {
			for _, c := range []impl.Conf{four, {N: 5, Fan: 1}, {N: 3, Fan: 2}} {
				checkClimb(t, c, r, p.View, p.Name, true)
				checkClimb(t, c, r, p.View, p.Name, false)
			}
		}
	}
	for _, p := range fullTable() {
		for id := range 4 {
			r := keptRep(id, busySafe())
			r.View, r.Table = 9, fullTable()
			checkClimb(t, four, r, p.View, p.Name, true)
			checkClimb(t, four, r, p.View, p.Name, false)
		}
	}
	for _, c := range allConfs() {
		for id := range 7 {
			r := rootRep(0, 1, 2, 3)
			r.Id, r.Held = id, nil
			checkClimb(t, c, r, 5, fiveName, false)
			r.Safe = impl.SafeNew()
			checkClimb(t, c, r, 5, fiveName, true)
		}
	}
}

// TestClimbOfSafes has what is held to at many places beside the certificate.
func TestClimbOfSafes(t *testing.T) {
	c := impl.Conf{N: 4, Fan: 2}
	for _, s := range allSafes(c) {
		for _, name := range []string{"/5|", fiveName, "/1|/5|", "/1|/2|/3|/4|/5|", "/2|/3|/5|"} {
			r := impl.Rep{Id: 1, View: 4, Safe: s, Table: []impl.Part{partOf(5, name, 0, 1, 2)}}
			checkClimb(t, c, r, 5, name, false)
		}
	}
}

func TestClimbOfWhatIsNotRight(t *testing.T) {
	c := impl.Conf{N: 4, Fan: 2}
	for i, turn := range []func(*impl.Rep){
		func(r *impl.Rep) { r.Id = 5 },
		func(r *impl.Rep) { r.View = 0 },
		func(r *impl.Rep) { r.View = 61 },
		func(r *impl.Rep) { r.Asked = -1 },
		func(r *impl.Rep) { r.Safe.Lock = 61 },
		func(r *impl.Rep) { r.Safe.High.Who = []int{0, 1} },
		func(r *impl.Rep) { r.Safe.Done = "x" },
		func(r *impl.Rep) { r.Pool = []impl.Tx{{Amount: -1}} },
		func(r *impl.Rep) { r.Table[0], r.Table[1] = r.Table[1], r.Table[0] },
		func(r *impl.Rep) { r.Table[0].Who = []int{4} },
		func(r *impl.Rep) { r.Disk.Sure = 1 },
		func(r *impl.Rep) { r.Held = []impl.Post{postOf(1, txMsg(impl.Tx{}))} },
		func(r *impl.Rep) { r.Held = []impl.Post{{}} },
	} {
		for _, push := range []bool{false, true} {
			r := rootRep(0, 1, 2, 3)
			turn(&r)
			if got, ok := impl.Climb(c, r, 5, fiveName, push); ok || !sameRep(got, r) {
				t.Errorf("wrong one %d: Climb = %v", i, ok)
			}
			r = rootRep(0, 1, 2, 3)
			r.Id, r.Held = 3, nil
			turn(&r)
			if got, ok := impl.Climb(c, r, 5, fiveName, push); impl.RepOk(c, r) == (!ok) || !ok && !sameRep(got, r) {
				t.Errorf("wrong one %d, not the root: Climb = %v", i, ok)
			}
		}
	}
}

// askingRep is the root of View 5 of four, and knows the certificate of view 4,
// in whose chain account 0 has paid 60.
func askingRep() impl.Rep {
	return impl.Rep{Id: 1, View: 5, Asked: 1, Safe: safeOf(4, 2, qcOf(4, askedOn, 0, 1, 3), "/2|0>1:60#0")}
}

const askedOn = "/2|0>1:60#0/4|"

func TestAsk(t *testing.T) {
	c := impl.Conf{N: 4, Fan: 2}
	late := func(view int, name string, who ...int) func(*impl.Rep) {
		return func(r *impl.Rep) {
			r.Safe.High = qcOf(2, "/2|", 0, 1, 2)
			r.Table = []impl.Part{partOf(view, name, who...)}
		}
	}
	full := nameByWords(chainOf(viewsFrom(1, 30)...))
	almost := nameByWords(chainOf(viewsFrom(1, 29)...))
	cases := []struct {
		name string
		turn func(*impl.Rep)
		want string
	}{
		{"High of the view below", func(r *impl.Rep) {}, askedOn + "/5|"},
		{"asked in no view", func(r *impl.Rep) { r.Asked = 0 }, askedOn + "/5|"},
		{"asked in the view below", func(r *impl.Rep) { r.Asked = 4 }, askedOn + "/5|"},
		{"asked in its View", func(r *impl.Rep) { r.Asked = 5 }, ""},
		{"asked above its View", func(r *impl.Rep) { r.Asked = 6 }, ""},
		{"asked in the last view", func(r *impl.Rep) { r.Asked = 60 }, ""},
		{"a vote in its View already", func(r *impl.Rep) { r.Safe.Voted = 5 }, askedOn + "/5|"},
		{"a lock above all", func(r *impl.Rep) { r.Safe.Lock = 60 }, askedOn + "/5|"},

		{"not the root", func(r *impl.Rep) { r.Id = 0 }, ""},
		{"the root of the view below", func(r *impl.Rep) { r.Id = 0 }, ""},
		{"the root of the next view", func(r *impl.Rep) { r.Id = 2 }, ""},
		{"not the root, with all at its View", func(r *impl.Rep) { r.Id = 3; r.Table = []impl.Part{partOf(5, "", 0, 1, 2, 3)} }, ""},
		{"the root of another View", func(r *impl.Rep) { r.View = 6 }, ""},

		{"nobody at its View", func(r *impl.Rep) { r.Safe.High = qcOf(2, "/2|", 0, 1, 2) }, ""},
		{"Quorum less one", late(5, "", 0, 1), ""},
		{"Quorum", late(5, "", 0, 1, 2), "/2|/5|"},
		{"Quorum without itself", late(5, "", 0, 2, 3), "/2|/5|"},
		{"all", late(5, "", 0, 1, 2, 3), "/2|/5|"},
		{"all at the view below", late(4, "", 0, 1, 2, 3), ""},
		{"all at the next view", late(6, "", 0, 1, 2, 3), ""},
		{"all voted", late(5, "/5|", 0, 1, 2, 3), ""},
		{"all voted, some are late", func(r *impl.Rep) {
			late(5, "", 0, 1)(r)
			r.Table = append(r.Table, partOf(5, "/2|/5|", 0, 1, 2, 3))
		}, ""},
		{"one view below and one late, together enough", func(r *impl.Rep) {
			late(4, "", 0, 1)(r)
			r.Table = append(r.Table, partOf(5, "", 2, 3))
		}, ""},
		{"High of the view below and Quorum", func(r *impl.Rep) { r.Table = []impl.Part{partOf(5, "", 0, 1, 2)} }, askedOn + "/5|"},
		{"High of the view below and one late", func(r *impl.Rep) { r.Table = []impl.Part{partOf(5, "", 1)} }, askedOn + "/5|"},

		{"High two views below", func(r *impl.Rep) { r.Safe.High = qcOf(3, "/3|", 0, 1, 2) }, ""},
		{"High of its View", func(r *impl.Rep) { r.Safe.High = qcOf(5, "/5|", 0, 1, 2) }, ""},
		{"High of its View, and all", func(r *impl.Rep) {
			late(5, "", 0, 1, 2, 3)(r)
			r.Safe.High = qcOf(5, "/5|", 0, 1, 2)
		}, ""},
		{"High of the next view, and all", func(r *impl.Rep) {
			late(5, "", 0, 1, 2, 3)(r)
			r.Safe.High = qcOf(6, "/6|", 0, 1, 2)
		}, ""},
		{"the beginning in view 1", func(r *impl.Rep) { r.View, r.Asked, r.Safe = 1, 0, impl.SafeNew() }, "/1|"},
		{"the beginning in view 1, asked", func(r *impl.Rep) { r.View, r.Asked, r.Safe = 1, 1, impl.SafeNew() }, ""},
		{"the beginning later on", func(r *impl.Rep) { r.Safe = impl.SafeNew() }, ""},
		{"the beginning later on, and Quorum", func(r *impl.Rep) { late(5, "", 1, 2, 3)(r); r.Safe = impl.SafeNew() }, "/5|"},
		{"the last view", func(r *impl.Rep) { r.Id, r.View, r.Safe.High = 0, 60, qcOf(59, "/59|", 0, 1, 2) }, "/59|/60|"},
		{"the last step", func(r *impl.Rep) { r.Id, r.View, r.Safe.High = 2, 30, qcOf(29, almost, 0, 1, 2) }, almost + "/30|"},
		{"a step too many", func(r *impl.Rep) { r.Id, r.View, r.Safe.High = 3, 31, qcOf(30, full, 0, 1, 2) }, ""},
	}
	for _, k := range cases {
		r := askingRep()
		k.turn(&r)
		var want impl.Block
		if k.want != "" {
			want = blockOf(k.want, r.Safe.High)
		}
		got, ok := impl.Ask(c, r)
		if ok != (k.want != "") || !sameBlock(got, want) {
			t.Errorf("%s: Ask = %v, %v", k.name, got, ok)
		}
		if ok && (!impl.BlockOk(c, got) || impl.ViewOf(got.Name) != r.View) {
			t.Errorf("%s: Ask = %v, which is no block of its View", k.name, got)
		}
		checkAsk(t, c, r)
	}
}

// TestAskTakesWhatCanBePaid has payments behind a chain in which account 0 has
// paid 60 to account 1 by its number 0.
func TestAskTakesWhatCanBePaid(t *testing.T) {
	c := impl.Conf{N: 4, Fan: 2}
	cases := []struct {
		name string
		pool []impl.Tx
		want string
	}{
		{"none", nil, ""},
		{"one", []impl.Tx{{From: 2, To: 3, Amount: 7}}, "2>3:7#0"},
		{"two", []impl.Tx{{From: 2, To: 3, Amount: 7}, {From: 3, To: 1, Amount: 100}}, "2>3:7#0,3>1:100#0"},
		{"three", []impl.Tx{{From: 1, To: 0, Amount: 1}, {From: 2, To: 3, Amount: 7}, {From: 3}}, "1>0:1#0,2>3:7#0"},
		{"all old", []impl.Tx{{From: 0, To: 3, Amount: 7}}, ""},
		{"all early", []impl.Tx{{From: 0, Nonce: 2}, {From: 1, Nonce: 1}}, ""},
		{"old and early ones ahead", []impl.Tx{{From: 0, Nonce: 0}, {From: 0, Nonce: 2}, {From: 1, Nonce: 1}, {From: 2, Amount: 5}, {From: 3}}, "2>0:5#0,3>0:0#0"},
		{"the next one", []impl.Tx{{From: 0, To: 1, Amount: 40, Nonce: 1}}, "0>1:40#1"},
		{"a poor one", []impl.Tx{{From: 0, To: 1, Amount: 1000, Nonce: 1}}, "0>1:1000#1"},
		{"as much as there is by the chain", []impl.Tx{{From: 1, To: 0, Amount: 160}}, "1>0:160#0"},
		{"one by the other", []impl.Tx{{From: 1, To: 0, Amount: 160}, {From: 1, To: 0, Nonce: 1}, {From: 1, Nonce: 2}}, "1>0:160#0,1>0:0#1"},
		{"a full pool, none of which is next", fullPool(), "0>1:7#1"},
	}
	for _, k := range cases {
		r := askingRep()
		r.Pool = k.pool
		got, ok := impl.Ask(c, r)
		if !ok || !sameBlock(got, blockOf(askedOn+"/5|"+k.want, r.Safe.High)) {
			t.Errorf("%s: Ask = %v, %v", k.name, got, ok)
		}
		// What is settled has nothing to do with it.
		r.Safe.Done = "/1|2>0:1#0,3>0:1#0"
		if again, ok := impl.Ask(c, r); !ok || !sameBlock(again, got) {
			t.Errorf("%s: with another Done, Ask = %v, %v", k.name, again, ok)
		}
		checkAsk(t, c, r)
	}
	// What the last step pays counts, and what the first one pays.
	r := askingRep()
	r.Safe.High = qcOf(4, "/2|2>0:30#0/4|0>1:60#0,1>3:160#0", 0, 1, 2)
	r.Pool = []impl.Tx{{From: 0, Nonce: 1}, {From: 1}, {From: 1, To: 2, Amount: 1, Nonce: 1}, {From: 2}}
	if got, ok := impl.Ask(c, r); !ok || got.Name != r.Safe.High.Name+"/5|0>0:0#1,1>2:1#1" {
		t.Errorf("behind payments in each step: Ask = %v, %v", got, ok)
	}
	// From the beginning on, the same payments are others' turn.
	r = impl.Rep{Id: 1, View: 1, Pool: []impl.Tx{{From: 0, To: 1, Amount: 60}, {From: 0, Nonce: 1}, {From: 1, Amount: 160}}}
	if got, ok := impl.Ask(c, r); !ok || got.Name != "/1|0>1:60#0,0>0:0#1" {
		t.Errorf("from the beginning on: Ask = %v, %v", got, ok)
	}
}

func TestAsksAsTheWordsSay(t *testing.T) {
	for _, r := range allReps() {
		for _, c := range []impl.Conf{{N: 4, Fan: 2}, {N: 7, Fan: 1}, {N: 3, Fan: 2}} {
			checkAsk(t, c, r)
		}
	}
	done, not := 0, 0
	for _, c := range rightConfs() {
		for _, view := range []int{1, 2, 6, 59, 60} {
			for id := range c.N {
				for _, high := range []string{"", "/1|", "/5|", "/58|", "/59|", "/60|"} {
					for bits := 0; bits < 1<<c.N; bits += 1 + c.N/6 {
						r := impl.Rep{Id: id, View: view, Asked: bits % (view + 1), Safe: safeOf(0, 0, enoughQc(c, high), ""), Pool: fullPool()}
						if bits > 0 {
							r.Table = []impl.Part{partOf(view, "", setOfBits(bits)...)}
						}
						if checkAsk(t, c, r) {
							done++
						} else {
							not++
						}
					}
				}
			}
		}
	}
	if done < 500 || not < 500 {
		t.Errorf("%d were asked, and %d were not", done, not)
	}
	for _, c := range allConfs() {
		for id := range 7 {
			checkAsk(t, c, impl.Rep{Id: id, View: 4, Safe: safeOf(0, 0, enoughQc(impl.Conf{N: 7, Fan: 1}, "/3|"), "")})
			checkAsk(t, c, impl.Rep{Id: id, View: 1})
		}
	}
}

func TestAskOfPools(t *testing.T) {
	c := impl.Conf{N: 4, Fan: 2}
	for _, p := range slices.Concat(allPools(), mixedPools(impl.LedgerNew())) {
		r := askingRep()
		r.Pool = p
		checkAsk(t, c, r)
	}
}

func TestLate(t *testing.T) {
	c := impl.Conf{N: 4, Fan: 2}
	// Each View of each one: who is told what, or what its table has.
	for view := 1; view <= 60; view++ {
		for id := range 4 {
			r := impl.Rep{Id: id, View: view, Asked: 3, Safe: safeOf(9, 8, qcOf(4, askedOn, 0, 1, 3), "/2|0>1:60#0"), Pool: fullPool()}
			want := cloneRep(r)
			next := view + 1
			if next <= 60 {
				want.View = next
			}
			switch {
			case next > 60:
			case next%4 == id:
				want.Table = []impl.Part{partOf(next, "", id)}
			default:
				want.Held = []impl.Post{postOf(next%4, viewMsg(next, id, r.Safe.High))}
			}
			got, ok := impl.Late(c, r)
			if ok != (next <= 60) || !sameRep(got, want) {
				t.Fatalf("Late of %d at View %d = %v, %v", id, view, got, ok)
			}
			checkLate(t, c, r)
		}
	}
	for id := range 4 {
		r := keptRep(id)
		got, ok := impl.Late(c, r)
		if !ok || got.View != 2 || id != 2 && !samePosts(got.Held, []impl.Post{postOf(2, viewMsg(2, id, impl.QcFirst()))}) {
			t.Errorf("Late of a new one, %d = %v, %v", id, got, ok)
		}
	}
}

// TestLateHasRoom has as much room as there must be, and one less: in the table
// of the root, and for what others tell.
func TestLateHasRoom(t *testing.T) {
	c := impl.Conf{N: 4, Fan: 2}
	// None of these parts is of view 7.
	for many := 18; many <= 20; many++ {
		r := impl.Rep{Id: 3, View: 6, Table: fullTable()[:many], Held: heldTimes(mostHeld, postOf(1, txMsg(impl.Tx{})))}
		got, ok := impl.Late(c, r)
		if ok != (many < 20) || ok && (len(got.Table) != many+1 || len(got.Held) != mostHeld) || !ok && !sameRep(got, r) {
			t.Errorf("Late of the root with %d parts = %v, %v", many, got, ok)
		}
		if ok && !samePart(got.Table[6], partOf(7, "", 3)) {
			t.Errorf("Late of the root is not in its place: %v", got.Table)
		}
	}
	for many := mostHeld - 2; many <= mostHeld; many++ {
		r := impl.Rep{Id: 2, View: 6, Table: fullTable(), Held: heldTimes(many, postOf(1, txMsg(impl.Tx{})))}
		got, ok := impl.Late(c, r)
		if ok != (many < mostHeld) || ok && (len(got.Held) != many+1 || !sameParts(got.Table, r.Table)) || !ok && !sameRep(got, r) {
			t.Errorf("Late with %d held = %v, %v", many, got, ok)
		}
	}
}

// TestLateJoinsOthers has others, itself, or both in the table of the next view
// already: where there are some, a full table has room.
func TestLateJoinsOthers(t *testing.T) {
	c := impl.Conf{N: 4, Fan: 2}
	for bits := 1; bits < 16; bits++ {
		for _, table := range [][]impl.Part{{partOf(9, "", setOfBits(bits)...)}, fullTable()} {
			r := impl.Rep{Id: 1, View: 8, Table: cloneParts(table)}
			at := slices.IndexFunc(r.Table, func(p impl.Part) bool { return p.View == 9 && p.Name == "" })
			r.Table[at].Who = setOfBits(bits)
			want := cloneRep(r)
			want.View, want.Table[at].Who = 9, setOfBits(bits|2)
			if got, ok := impl.Late(c, r); !ok || !sameRep(got, want) {
				t.Errorf("Late beside %v = %v, %v", setOfBits(bits), got, ok)
			}
			// Whoever voted in that view is not late by it.
			voted := impl.Rep{Id: 1, View: 8, Table: []impl.Part{partOf(9, "/9|", setOfBits(bits)...)}}
			want = cloneRep(voted)
			want.View, want.Table = 9, []impl.Part{partOf(9, "", 1), partOf(9, "/9|", setOfBits(bits)...)}
			if got, ok := impl.Late(c, voted); !ok || !sameRep(got, want) {
				t.Errorf("Late beside votes of %v = %v, %v", setOfBits(bits), got, ok)
			}
		}
	}
}

func TestLateAsTheWordsSay(t *testing.T) {
	for _, r := range allReps() {
		for _, c := range []impl.Conf{{N: 4, Fan: 2}, {N: 7, Fan: 1}, {N: 3, Fan: 2}, {N: 4, Fan: 0}} {
			checkLate(t, c, r)
		}
	}
	for _, c := range allConfs() {
		for _, view := range []int{0, 1, 2, 3, 4, 5, 6, 7, 58, 59, 60, 61, -1, math.MinInt, math.MaxInt} {
			for id := range 8 {
				checkLate(t, c, impl.Rep{Id: id, View: view})
				checkLate(t, c, impl.Rep{Id: id, View: view, Table: fullTable(), Held: busyPosts()})
			}
		}
	}
	c := impl.Conf{N: 4, Fan: 2}
	for _, list := range allTables() {
		for _, at := range []int{1, 4, 8, 58} {
			checkLate(t, c, impl.Rep{Id: (at + 1) % 4, View: at, Table: list})
		}
	}
	for _, s := range allSafes(c) {
		checkLate(t, c, impl.Rep{Id: 0, View: 4, Safe: s})
	}
}

func TestSureNow(t *testing.T) {
	c := impl.Conf{N: 4, Fan: 2}
	for many := range mostHeld + 3 {
		for _, d := range []impl.Disk{{}, diskOf("abc", 0), diskOf("abc", 2), diskOf("abc", 3), busyRep().Disk} {
			r := busyRep()
			r.Held, r.Disk = heldTimes(many, busyPosts()...), d
			got, list := impl.SureNow(c, r)
			if many > mostHeld {
				if len(list) != 0 || !sameRep(got, r) {
					t.Errorf("SureNow with %d held = %v, %v", many, got, list)
				}
				continue
			}
			want := cloneRep(r)
			want.Held, want.Disk.Sure = nil, len(d.Bytes)
			if !sameRep(got, want) || !samePosts(list, r.Held) {
				t.Errorf("SureNow with %d held = %v, %v", many, got, list)
			}
			again, none := impl.SureNow(c, got)
			if !sameRep(again, want) || len(none) != 0 {
				t.Errorf("a second SureNow = %v, %v", again, none)
			}
		}
	}
}

func TestSureNowAsTheWordsSay(t *testing.T) {
	for _, r := range allReps() {
		for _, c := range []impl.Conf{{N: 4, Fan: 2}, {N: 7, Fan: 1}, {N: 3, Fan: 2}, {N: 4, Fan: 7}} {
			checkSureNow(t, c, r)
		}
	}
	for _, c := range allConfs() {
		r := keptRep(3, impl.SafeNew())
		r.Held = []impl.Post{postOf(1, txMsg(impl.Tx{})), postOf(0, txMsg(impl.Tx{From: 1}))}
		checkSureNow(t, c, r)
	}
	c := impl.Conf{N: 4, Fan: 2}
	for _, list := range wrongHeld() {
		r := busyRep()
		r.Held = list
		if got, told := impl.SureNow(c, r); len(told) != 0 || !sameRep(got, r) {
			t.Fatalf("SureNow of what may not be held = %v", told)
		}
	}
}

// acting goes over all rows of so many steps of one replica, and holds each step
// against promise 16.
type acting struct {
	t     *testing.T
	c     impl.Conf
	asked int
	told  int
}

// actingState is what was done since the last fall: in which views a block was
// made, and what was put, of which so much was handed out.
type actingState struct {
	rep    impl.Rep
	block  impl.Block
	views  []int
	put    []impl.Post
	handed int
}

func (a *acting) goOn(s actingState, left int) {
	if left == 0 {
		return
	}
	for _, step := range []func(actingState) (actingState, bool){a.ask, a.tell, a.votes, a.push, a.others, a.late, a.sure, a.fall} {
		if next, ok := step(s); ok {
			a.goOn(next, left-1)
		}
	}
}

// putMore checks that a step that is no SureNow handed out nothing, made nothing
// sure, and put what it put behind the rest.
func (a *acting) putMore(s actingState, after impl.Rep) actingState {
	a.t.Helper()
	was := s.rep
	if len(after.Held) < len(was.Held) || !samePosts(after.Held[:len(was.Held)], was.Held) {
		a.t.Fatalf("what is held turned from %v to %v", was.Held, after.Held)
	}
	begins := len(after.Disk.Bytes) >= len(was.Disk.Bytes) && string(after.Disk.Bytes[:len(was.Disk.Bytes)]) == string(was.Disk.Bytes)
	if after.Disk.Sure != was.Disk.Sure || !begins {
		a.t.Fatalf("the disk turned from %v to %v", was.Disk, after.Disk)
	}
	if !impl.RepOk(a.c, after) || !impl.Kept(a.c, after) {
		a.t.Fatalf("%v became %v, which is not right, or not kept", was, after)
	}
	s.put = append(slices.Clone(s.put), after.Held[len(was.Held):]...)
	s.rep = after
	return s
}

func (a *acting) ask(s actingState) (actingState, bool) {
	b, ok := impl.Ask(a.c, s.rep)
	if !ok {
		return s, false
	}
	if slices.Contains(s.views, s.rep.View) {
		a.t.Fatalf("a second block in view %d", s.rep.View)
	}
	if impl.ViewOf(b.Name) != s.rep.View || impl.Root(a.c, s.rep.View) != s.rep.Id || !impl.BlockOk(a.c, b) {
		a.t.Fatalf("%d at View %d made %v", s.rep.Id, s.rep.View, b)
	}
	asked := cloneRep(s.rep)
	asked.Asked = s.rep.View
	if _, again := impl.Ask(a.c, asked); again {
		a.t.Fatalf("asked again in view %d", s.rep.View)
	}
	after, all := impl.TellAll(a.c, asked, blockMsg(b))
	if !all {
		return s, false
	}
	a.asked++
	s.views, s.block = append(slices.Clone(s.views), s.rep.View), b
	return a.putMore(s, after), true
}

func (a *acting) tell(s actingState) (actingState, bool) {
	after, ok := impl.Tell(a.c, s.rep, (s.rep.Id+1)%a.c.N, txMsg(impl.Tx{Nonce: len(s.put)}))
	return a.putMore(s, after), ok
}

// votes has enough votes come in for the block that was made last.
func (a *acting) votes(s actingState) (actingState, bool) {
	view := impl.ViewOf(s.block.Name)
	table, added := impl.TableAdd(a.c, s.rep.Table, partOf(view, s.block.Name, 0, 1, 2))
	if !added {
		return s, false
	}
	joined := cloneRep(s.rep)
	joined.Table = table
	after, ok := impl.Climb(a.c, joined, view, s.block.Name, false)
	return a.putMore(s, after), ok
}

// push hands up a vote for a block of another one.
func (a *acting) push(s actingState) (actingState, bool) {
	view := s.rep.View
	name := nameByWords([]impl.Step{{View: view}})
	table, added := impl.TableAdd(a.c, s.rep.Table, partOf(view, name, s.rep.Id))
	if !added {
		return s, false
	}
	joined := cloneRep(s.rep)
	joined.Table = table
	after, ok := impl.Climb(a.c, joined, view, name, true)
	return a.putMore(s, after), ok
}

// others has all others come to its View, where it is the root of that.
func (a *acting) others(s actingState) (actingState, bool) {
	if impl.Root(a.c, s.rep.View) != s.rep.Id {
		return s, false
	}
	here := setOfBits(1<<a.c.N - 1 - 1<<s.rep.Id)
	table, added := impl.TableAdd(a.c, s.rep.Table, partOf(s.rep.View, "", here...))
	joined := cloneRep(s.rep)
	joined.Table = table
	return a.putMore(s, joined), added
}

func (a *acting) late(s actingState) (actingState, bool) {
	after, ok := impl.Late(a.c, s.rep)
	if ok && after.View != s.rep.View+1 {
		a.t.Fatalf("late from %d to %d", s.rep.View, after.View)
	}
	return a.putMore(s, after), ok
}

func (a *acting) sure(s actingState) (actingState, bool) {
	after, list := impl.SureNow(a.c, s.rep)
	if !samePosts(list, s.put[s.handed:]) || len(after.Held) != 0 || after.Disk.Sure != len(after.Disk.Bytes) {
		a.t.Fatalf("SureNow hands out %v of %v, and is %v", list, s.put[s.handed:], after)
	}
	// What is told now stands, whatever falls: each certificate that is told is
	// held to, or a later one.
	fell := cloneRep(after)
	fell.Disk = impl.FallTo(after.Disk, 0)
	risen := impl.Rise(a.c, fell)
	for _, p := range list {
		if p.Msg.Qc.View > risen.Safe.High.View {
			a.t.Fatalf("%v was told, and what rises holds to %v", p, risen.Safe)
		}
	}
	if !sameSafe(risen.Safe, s.rep.Safe) {
		a.t.Fatalf("SureNow of %v, and what rises holds to %v", s.rep.Safe, risen.Safe)
	}
	a.told += len(list)
	s.rep, s.handed = after, len(s.put)
	return s, true
}

func (a *acting) fall(s actingState) (actingState, bool) {
	fell := cloneRep(s.rep)
	fell.Disk = impl.FallTo(s.rep.Disk, 0)
	return actingState{rep: impl.Rise(a.c, fell)}, true
}

func TestNothingIsToldBeforeItIsSure(t *testing.T) {
	for _, c := range []impl.Conf{{N: 4, Fan: 2}, {N: 4, Fan: 1}} {
		for id := range c.N {
			a := acting{t: t, c: c}
			r, _ := impl.RepNew(c, id)
			a.goOn(actingState{rep: r}, 6)
			if a.told < 100 || a.asked == 0 {
				t.Errorf("%v: %d made %d blocks, and told %d", c, id, a.asked, a.told)
			}
		}
	}
}

func TestActsAreNewMemory(t *testing.T) {
	c := impl.Conf{N: 4, Fan: 2}
	reps := slices.Concat(rightReps(), wrongReps(), []impl.Rep{rootRep(0, 1, 2), rootRep(0, 2), askingRep()})
	for _, r := range reps {
		if len(r.Disk.Bytes) > 1000 {
			continue
		}
		for _, m := range []impl.Msg{fewMsgs()[0], fewMsgs()[2], fewMsgs()[4], wrongMsgs()[40]} {
			given, whole := msgWithRoom(m)
			before := cloneLists(whole)
			checkRepMemory(t, "Tell", r, func(r impl.Rep) impl.Rep {
				got, _ := impl.Tell(c, r, 3, given)
				return got
			})
			checkRepMemory(t, "TellAll", r, func(r impl.Rep) impl.Rep {
				got, _ := impl.TellAll(c, r, given)
				return got
			})
			if !slices.EqualFunc(whole, before, slices.Equal) {
				t.Fatalf("%v was written into, or shares memory with what tells it", m)
			}
		}
		for _, p := range append(cloneParts(r.Table[:min(len(r.Table), 3)]), partOf(7, "/7|")) {
			checkRepMemory(t, "Climb", r, func(r impl.Rep) impl.Rep {
				got, _ := impl.Climb(c, r, p.View, p.Name, true)
				return got
			})
		}
		checkRepMemory(t, "Late", r, func(r impl.Rep) impl.Rep {
			got, _ := impl.Late(c, r)
			return got
		})
		checkRepMemory(t, "SureNow", r, func(r impl.Rep) impl.Rep {
			got, _ := impl.SureNow(c, r)
			return got
		})
		checkRepMemory(t, "what SureNow hands out", r, func(r impl.Rep) impl.Rep {
			_, list := impl.SureNow(c, r)
			return impl.Rep{Held: list}
		})
		checkRepMemory(t, "SureNow, and what it hands out", r, func(r impl.Rep) impl.Rep {
			got, list := impl.SureNow(c, r)
			// What is not right still holds what it held.
			got.Held = append(got.Held, list...)
			return got
		})
		checkRepMemory(t, "Ask", r, func(r impl.Rep) impl.Rep {
			b, _ := impl.Ask(c, r)
			return impl.Rep{Safe: safeOf(0, 0, b.Qc, b.Name)}
		})
	}
}

// climbingReps has what climbs at a root and at another one, beside much else.
func climbingReps() []impl.Rep {
	var out []impl.Rep
	for id := range 4 {
		r := rootRep(0, 1, 2, 3)
		r.Id, r.Held = id, nil
		for _, m := range fewMsgs() {
			r.Held = append(r.Held, postOf((id+1)%4, m))
		}
		old := r
		old.Safe = safeOf(9, 8, qcOf(9, "/9|", 0, 1, 2), "/3|")
		out = append(out, r, old)
	}
	return out
}

func TestClimbsAreNewMemory(t *testing.T) {
	c := impl.Conf{N: 4, Fan: 2}
	for _, r := range climbingReps() {
		if _, ok := impl.Climb(c, r, 5, fiveName, false); !ok {
			t.Fatal("does not climb", r)
		}
		for _, push := range []bool{false, true} {
			checkRepMemory(t, "Climb", r, func(r impl.Rep) impl.Rep {
				got, _ := impl.Climb(c, r, 5, fiveName, push)
				return got
			})
		}
		at := r
		at.View = 4 + r.Id
		checkRepMemory(t, "Late", at, func(r impl.Rep) impl.Rep {
			got, _ := impl.Late(c, r)
			return got
		})
	}
}

// TestActsOfOneList hands in one list of numbers at many places: each answer has
// a list of its own at each.
func TestActsOfOneList(t *testing.T) {
	c := impl.Conf{N: 4, Fan: 2}
	who := []int{0, 1, 2}
	q := qcOf(4, "/4|", who...)
	q.Who = who
	r := impl.Rep{Id: 1, View: 5, Safe: impl.Safe{High: q}, Table: []impl.Part{{View: 4, Name: "/4|", Who: who}, {View: 5, Who: who}, {View: 5, Name: "/4|/5|", Who: who}}}
	for _, m := range []impl.Msg{{Kind: kindBlock, Block: impl.Block{Name: "/4|/5|", Qc: q}}, {Kind: kindPart, Part: r.Table[2]}, {Kind: kindView, View: 5, Qc: q}} {
		one, ok := impl.Tell(c, r, 3, m)
		all, okAll := impl.TellAll(c, one, m)
		if !ok || !okAll || len(all.Held) != len(r.Held)+4 {
			t.Fatal("not told", all.Held)
		}
		checkOwnIntLists(t, "Tell", one)
		checkOwnIntLists(t, "TellAll", all)
		r.Held = append(r.Held, impl.Post{To: 2, Msg: m})
	}
	climbed, ok := impl.Climb(c, r, 5, "/4|/5|", false)
	late, okLate := impl.Late(c, r)
	sure, list := impl.SureNow(c, r)
	if !ok || !okLate || len(list) != 3 {
		t.Fatal(ok, okLate, list)
	}
	checkOwnIntLists(t, "Climb", climbed)
	checkOwnIntLists(t, "Late", late)
	sure.Held = list
	checkOwnIntLists(t, "SureNow", sure)
	handing := r
	handing.Id = 3
	handed, ok := impl.Climb(c, handing, 5, "/4|/5|", true)
	if !ok {
		t.Fatal("not handed up")
	}
	checkOwnIntLists(t, "Climb of another one", handed)
	for _, wrong := range []func() impl.Rep{
		func() impl.Rep { got, _ := impl.Tell(c, r, 1, impl.Msg{}); return got },
		func() impl.Rep { got, _ := impl.TellAll(c, r, impl.Msg{}); return got },
		func() impl.Rep { got, _ := impl.Climb(c, r, 5, "", false); return got },
		func() impl.Rep { got, _ := impl.Late(impl.Conf{}, r); return got },
		func() impl.Rep { got, _ := impl.SureNow(impl.Conf{}, r); return got },
	} {
		checkOwnIntLists(t, "what is as it was", wrong())
	}
	if !slices.Equal(who, []int{0, 1, 2}) {
		t.Errorf("what all share was written into: %v", who)
	}
}

// TestActsDoNotReadBehindTheirLists has what would turn the answer in the spare
// room.
func TestActsDoNotReadBehindTheirLists(t *testing.T) {
	c := impl.Conf{N: 4, Fan: 2}
	who := []int{0, 1, 2, 3}
	r := rootRep(0, 1)
	r.Table[2].Who = who[:2]
	if got, ok := impl.Climb(c, r, 5, fiveName, false); ok || !sameRep(got, r) {
		t.Error("what stands behind Who is counted as votes")
	}
	table := rootRep(0, 1, 2).Table
	r = rootRep(0, 1, 2)
	r.Table = table[:2]
	if got, ok := impl.Climb(c, r, 5, fiveName, true); ok || !sameRep(got, r) {
		t.Error("what stands behind the table climbs")
	}
	asking := askingRep()
	asking.Safe.High, asking.Table = impl.QcFirst(), []impl.Part{{View: 5, Who: who[:2]}}
	if _, ok := impl.Ask(c, asking); ok {
		t.Error("what stands behind Who is late")
	}
	pool := []impl.Tx{{From: 2}, {From: 3}}
	asking = askingRep()
	asking.Pool = pool[:1]
	if b, ok := impl.Ask(c, asking); !ok || b.Name != askedOn+"/5|2>0:0#0" {
		t.Error("what stands behind the pool is taken", b)
	}
	held := heldTimes(5, busyPosts()[0])
	r = busyRep()
	r.Held = held[:3]
	if _, list := impl.SureNow(c, r); len(list) != 3 {
		t.Error("what stands behind what is held is handed out")
	}
}

// TestActsKeepNothing asks the same again once others were asked, and many at
// once.
func TestActsKeepNothing(t *testing.T) {
	c := impl.Conf{N: 4, Fan: 2}
	for range 3 {
		for _, r := range append(wrongReps()[:8], keptRep(0), busyRep(), askingRep(), rootRep(0, 1, 2), rootRep(1)) {
			for _, c := range []impl.Conf{c, {N: 7, Fan: 3}, {}} {
				checkTell(t, c, r, 3, fewMsgs()[1])
				checkTellAll(t, c, r, fewMsgs()[6])
				checkClimb(t, c, r, 5, fiveName, true)
				checkAsk(t, c, r)
				checkLate(t, c, r)
				checkSureNow(t, c, r)
			}
		}
	}
	r, asking := rootRep(0, 1, 2), askingRep()
	wantAll, _ := tellAllByWords(c, r, fewMsgs()[0])
	wantUp, _ := climbByWords(c, r, 5, fiveName, false)
	wantLate, _ := lateByWords(c, r)
	wantBlock, _ := askByWords(c, asking)
	var all sync.WaitGroup
	right := make([]bool, 64)
	for i := range right {
		all.Go(func() {
			told, ok := impl.TellAll(c, r, fewMsgs()[0])
			up, okUp := impl.Climb(c, r, 5, fiveName, false)
			late, okLate := impl.Late(c, r)
			b, okAsk := impl.Ask(c, asking)
			_, list := impl.SureNow(c, r)
			same := sameRep(told, wantAll) && sameRep(up, wantUp) && sameRep(late, wantLate) && sameBlock(b, wantBlock) && samePosts(list, r.Held)
			right[i] = ok && okUp && okLate && okAsk && same
		})
	}
	all.Wait()
	if i := slices.Index(right, false); i >= 0 {
		t.Errorf("asked at once, number %d is answered otherwise", i)
	}
}

// TestGreatActs has far more of each than is right, and the greatest Confs.
func TestGreatActs(t *testing.T) {
	c := impl.Conf{N: 4, Fan: 2}
	who, name := viewsFrom(0, 50000), strings.Repeat("/1|", 50000)
	great := qcOf(1, name, who...)
	refused := func(c impl.Conf, r impl.Rep, m impl.Msg) {
		t.Helper()
		one, ok := impl.Tell(c, r, 1, m)
		all, okAll := impl.TellAll(c, r, m)
		if ok || okAll || !sameRep(one, r) || !sameRep(all, r) {
			t.Error("told")
		}
	}
	for _, m := range []impl.Msg{blockMsg(blockOf(name+"/2|", great)), partMsg(partOf(1, name, who...)), viewMsg(1, 1, great)} {
		refused(c, keptRep(0), m)
		r := keptRep(0)
		r.Held = []impl.Post{postOf(1, m)}
		refused(c, r, fewMsgs()[0])
		late, ok := impl.Late(c, r)
		sure, list := impl.SureNow(c, r)
		if ok || len(list) != 0 || !sameRep(late, r) || !sameRep(sure, r) {
			t.Error("late, or sure")
		}
	}
	for _, c := range []impl.Conf{{N: math.MaxInt, Fan: 2}, {N: math.MaxInt, Fan: math.MaxInt}, {N: math.MinInt, Fan: 1}} {
		refused(c, keptRep(0), fewMsgs()[6])
		refused(c, impl.Rep{}, fewMsgs()[6])
	}
	r := rootRep(0, 1, 2)
	r.Table[2].Who = who
	if got, ok := impl.Climb(c, r, 5, fiveName, true); ok || !sameRep(got, r) {
		t.Error("Climb of a great part")
	}
	if got, ok := impl.Climb(c, rootRep(0, 1, 2), 5, name, true); ok || !sameRep(got, rootRep(0, 1, 2)) {
		t.Error("Climb of a great name")
	}
	asking := askingRep()
	asking.Pool = make([]impl.Tx, 50000)
	if b, ok := impl.Ask(c, asking); ok || !isZeroBlock(b) {
		t.Error("Ask of a great pool")
	}
}
