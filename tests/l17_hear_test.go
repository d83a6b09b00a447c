package tests

import (
	"math"
	"slices"
	"strings"
	"sync"
	"testing"

	"loop.example/g00448/impl"
)

// hearBlockByWords and those behind it are a second reading of what the document
// says.
func hearBlockByWords(c impl.Conf, r impl.Rep, b impl.Block) (impl.Rep, bool) {
	if !repOkByWords(c, r) || !blockOkByWords(c, b) {
		return r, false
	}
	s := seeByWords(c, r.Safe, b.Qc)
	after := r
	if view := viewByWords(b.Name); view >= r.View {
		after.View = view
		if mayVoteByWords(c, s, b) {
			s.Voted = view
			table, ok := tableAddByWords(c, r.Table, partOf(view, b.Name, r.Id))
			if !ok {
				return r, false
			}
			after.Table = table
			// It climbs with what it voted, of which nothing is written yet.
			voted := after
			voted.Safe = s
			if up, ok := climbByWords(c, voted, view, b.Name, false); ok {
				if !sameSafe(up.Safe, s) {
					return up, true
				}
				after.View, after.Held = up.View, up.Held
			}
		}
	}
	if wrote, ok := writeByWords(c, after, s); ok {
		return wrote, true
	}
	return r, false
}

func hearPartByWords(c impl.Conf, r impl.Rep, p impl.Part) (impl.Rep, bool) {
	if !repOkByWords(c, r) || !partOkByWords(c, p) || p.Name == "" || p.View < r.View {
		return r, false
	}
	table, ok := tableAddByWords(c, r.Table, p)
	if !ok {
		return r, false
	}
	after := r
	after.Table = table
	if up, ok := climbByWords(c, after, p.View, p.Name, false); ok {
		return up, true
	}
	return after, true
}

func hearViewByWords(c impl.Conf, r impl.Rep, view int, q impl.Qc, who int) (impl.Rep, bool) {
	if !repOkByWords(c, r) || view < 1 || view > 60 || !qcOkByWords(c, q) || who < 0 || who >= c.N {
		return r, false
	}
	after, ok := writeByWords(c, r, seeByWords(c, r.Safe, q))
	if !ok {
		return r, false
	}
	if rootByWords(c, view) == r.Id && !(view < r.View) {
		table, ok := tableAddByWords(c, r.Table, partOf(view, "", who))
		if !ok {
			return r, false
		}
		after.Table = table
	}
	if len(tableGetByWords(after.Table, view, "").Who) >= enoughOf(c.N) && view > after.View {
		after.View = view
	}
	for at := after.View + 1; at <= 60 && at <= q.View+1; at++ {
		after.View = at
	}
	return after, true
}

// poolAddByWords tries the payment at every place.
func poolAddByWords(p []impl.Tx, x impl.Tx) ([]impl.Tx, bool) {
	for i := range len(p) + 1 {
		if try := slices.Concat(p[:i], []impl.Tx{x}, p[i:]); poolOkByWords(try) {
			return try, true
		}
	}
	return p, false
}

func hearTxByWords(c impl.Conf, r impl.Rep, x impl.Tx) (impl.Rep, bool) {
	if !repOkByWords(c, r) {
		return r, false
	}
	pool, ok := poolAddByWords(r.Pool, x)
	if !ok {
		return r, false
	}
	after := r
	after.Pool = pool
	return after, true
}

func hearByWords(c impl.Conf, r impl.Rep, m impl.Msg) (impl.Rep, bool) {
	if !msgOkByWords(c, m) {
		return r, false
	}
	after, ok := r, false
	switch m.Kind {
	case kindBlock:
		after, ok = hearBlockByWords(c, r, m.Block)
	case kindPart:
		after, ok = hearPartByWords(c, r, m.Part)
	case kindView:
		after, ok = hearViewByWords(c, r, m.View, m.Qc, m.Who)
	case kindTx:
		after, ok = hearTxByWords(c, r, m.Tx)
	}
	if !ok {
		return r, false
	}
	after.Table = tableDropByWords(after.Table, after.View-1)
	state := stateByWords(c, after)
	var left []impl.Tx
	for _, x := range after.Pool {
		if _, code := payByWords(state, x); code != 2 {
			left = append(left, x)
		}
	}
	after.Pool = left
	return after, true
}

// checkHeard is promise 17 of one call, beside the second reading: what is false
// turns nothing; what is true is kept, and goes back nowhere.
func checkHeard(t *testing.T, name string, c impl.Conf, r, got impl.Rep, ok bool, want impl.Rep, wantOk bool) {
	t.Helper()
	if ok != wantOk || !sameRep(got, want) {
		t.Fatalf("%s of %v, %v = %v, %v, want %v, %v", name, c, r, got, ok, want, wantOk)
	}
	if !ok {
		if !sameRep(got, r) {
			t.Fatalf("%s is false, and turned %v into %v", name, r, got)
		}
		return
	}
	if !impl.RepOk(c, got) || keptByWords(c, r) && !impl.Kept(c, got) {
		t.Fatalf("%s turned %v into %v, which is not right, or not kept", name, r, got)
	}
	if got.View < r.View || got.Safe.Voted < r.Safe.Voted || got.Safe.Lock < r.Safe.Lock || got.Safe.High.View < r.Safe.High.View || !beginsWith(got.Safe.Done, r.Safe.Done) {
		t.Fatalf("%s went back from %v to %v", name, r, got)
	}
	if got.Id != r.Id || got.Asked != r.Asked || got.Disk.Sure != r.Disk.Sure || !samePosts(got.Held[:len(r.Held)], r.Held) {
		t.Fatalf("%s turned %v into %v", name, r, got)
	}
}

func checkHearBlock(t *testing.T, c impl.Conf, r impl.Rep, b impl.Block) (impl.Rep, bool) {
	t.Helper()
	got, ok := impl.HearBlock(c, r, b)
	want, wantOk := hearBlockByWords(c, r, b)
	checkHeard(t, "HearBlock", c, r, got, ok, want, wantOk)
	return got, ok
}

func checkHearPart(t *testing.T, c impl.Conf, r impl.Rep, p impl.Part) (impl.Rep, bool) {
	t.Helper()
	got, ok := impl.HearPart(c, r, p)
	want, wantOk := hearPartByWords(c, r, p)
	checkHeard(t, "HearPart", c, r, got, ok, want, wantOk)
	return got, ok
}

func checkHearView(t *testing.T, c impl.Conf, r impl.Rep, view int, q impl.Qc, who int) (impl.Rep, bool) {
	t.Helper()
	got, ok := impl.HearView(c, r, view, q, who)
	want, wantOk := hearViewByWords(c, r, view, q, who)
	checkHeard(t, "HearView", c, r, got, ok, want, wantOk)
	return got, ok
}

func checkHearTx(t *testing.T, c impl.Conf, r impl.Rep, x impl.Tx) (impl.Rep, bool) {
	t.Helper()
	got, ok := impl.HearTx(c, r, x)
	want, wantOk := hearTxByWords(c, r, x)
	checkHeard(t, "HearTx", c, r, got, ok, want, wantOk)
	return got, ok
}

func checkHear(t *testing.T, c impl.Conf, r impl.Rep, m impl.Msg) (impl.Rep, bool) {
	t.Helper()
	got, ok := impl.Hear(c, r, m)
	want, wantOk := hearByWords(c, r, m)
	checkHeard(t, "Hear", c, r, got, ok, want, wantOk)
	return got, ok
}

// hearMsg is m by the function of its kind.
func hearMsg(c impl.Conf, r impl.Rep, m impl.Msg) (impl.Rep, bool) {
	switch m.Kind {
	case kindBlock:
		return impl.HearBlock(c, r, m.Block)
	case kindPart:
		return impl.HearPart(c, r, m.Part)
	case kindView:
		return impl.HearView(c, r, m.View, m.Qc, m.Who)
	}
	return impl.HearTx(c, r, m.Tx)
}

// hearingRep is at View 5 of four, has voted in view 4, and holds to what it
// wrote: the certificate of view 3, and a lock on view 2.
func hearingRep(id int) impl.Rep {
	r := keptRep(id, impl.SafeNew(), hearingSafe())
	r.View, r.Asked = 5, 1
	r.Pool = []impl.Tx{{From: 1, To: 2, Amount: 3}}
	r.Table = []impl.Part{partOf(4, "/2|/3|/4|", 3), partOf(6, "", 0)}
	r.Held = []impl.Post{postOf((id+1)%4, txMsg(impl.Tx{From: 1, To: 2, Amount: 3}))}
	r.Disk.Sure = 8
	return r
}

func hearingSafe() impl.Safe { return safeOf(4, 2, qcOf(3, "/2|/3|", 0, 1, 3), "") }

// heardBlock is of view 5, on a certificate of view 4 that settles view 2.
func heardBlock() impl.Block { return blockOf(heardName, heardQc()) }

func heardQc() impl.Qc { return qcOf(4, "/2|/3|/4|", 0, 1, 2) }

const heardName = "/2|/3|/4|/5|0>1:5#0"

// heardSafe is what is held to once that block is voted for.
func heardSafe() impl.Safe { return safeOf(5, 3, heardQc(), "/2|") }

// wroteTo holds to s, and has its note behind the others.
func wroteTo(r impl.Rep, s impl.Safe) impl.Rep {
	r.Safe, r.Disk = s, diskOf(string(r.Disk.Bytes)+string(noteWritten(s)), r.Disk.Sure)
	return r
}

func joinedTo(r impl.Rep, p impl.Part) impl.Rep {
	r.Table, _ = tableAddByWords(impl.Conf{N: 4, Fan: 2}, r.Table, p)
	return r
}

func heldBehind(r impl.Rep, to int, m impl.Msg) impl.Rep {
	r.Held = append(clonePosts(r.Held), postOf(to, m))
	return r
}

// votedFor wrote s, and has its own vote beside what is in its table.
func votedFor(r impl.Rep, s impl.Safe, name string) impl.Rep {
	r = wroteTo(joinedTo(r, partOf(s.Voted, name, r.Id)), s)
	r.View = s.Voted
	return r
}

type heardCase struct {
	name string
	r    impl.Rep
	ok   bool
	want impl.Rep
}

// checkHeardCases holds the answer and the second reading against what a case
// wants; what is false is wanted as it was.
func checkHeardCases(t *testing.T, cases []heardCase, m impl.Msg) {
	t.Helper()
	c := impl.Conf{N: 4, Fan: 2}
	for _, k := range cases {
		want := k.want
		if !k.ok {
			want = k.r
		}
		if got, ok := hearMsg(c, k.r, m); ok != k.ok || !sameRep(got, want) {
			t.Errorf("%s: %v, %v, want %v", k.name, got, ok, want)
		}
		whole, ok := impl.Hear(c, k.r, m)
		if want, wantOk := hearByWords(c, k.r, m); ok != k.ok || ok != wantOk || !sameRep(whole, want) {
			t.Errorf("%s: Hear = %v, %v, want %v", k.name, whole, ok, want)
		}
	}
}

// TestHearBlock has the tree of view 5 of four: 1 above 2 and 3, 2 above 0.
func TestHearBlock(t *testing.T) {
	turned := func(id int, turn func(*impl.Rep)) impl.Rep {
		r := hearingRep(id)
		turn(&r)
		return r
	}
	seen := safeOf(4, 3, heardQc(), "/2|")
	vote := func(id int, who ...int) impl.Msg { return partMsg(partOf(5, heardName, append(who, id)...)) }
	others := func(who ...int) func(*impl.Rep) {
		return func(r *impl.Rep) { *r = joinedTo(*r, partOf(5, heardName, who...)) }
	}
	certified := func(who ...int) impl.Rep {
		r := joinedTo(hearingRep(1), partOf(5, heardName, who...))
		q := qcOf(5, heardName, who...)
		r = wroteTo(r, safeOf(5, 4, q, "/2|/3|"))
		r.View = 6
		return heldBehind(r, 2, viewMsg(6, 1, q))
	}
	atView := func(id, view int) impl.Rep { return turned(id, func(r *impl.Rep) { r.View = view }) }
	full := func(id int) impl.Rep {
		return turned(id, func(r *impl.Rep) { r.Held = heldTimes(mostHeld, r.Held[0]) })
	}
	checkHeardCases(t, []heardCase{
		{"a leaf", hearingRep(3), true, heldBehind(votedFor(hearingRep(3), heardSafe(), heardName), 1, vote(3))},
		{"a low leaf", hearingRep(0), true, heldBehind(votedFor(hearingRep(0), heardSafe(), heardName), 2, vote(0))},
		{"one above another, which is not there", hearingRep(2), true, votedFor(hearingRep(2), heardSafe(), heardName)},
		{"one above another, which is there", turned(2, others(0)), true, heldBehind(votedFor(turned(2, others(0)), heardSafe(), heardName), 1, partMsg(partOf(5, heardName, 0, 2)))},
		{"one above another, others are there", turned(2, others(1, 3)), true, votedFor(turned(2, others(1, 3)), heardSafe(), heardName)},
		{"the root, alone", hearingRep(1), true, votedFor(hearingRep(1), heardSafe(), heardName)},
		{"the root, one too few", turned(1, others(3)), true, votedFor(turned(1, others(3)), heardSafe(), heardName)},
		{"the root, enough", turned(1, others(0, 3)), true, certified(0, 1, 3)},
		{"the root, all", turned(1, others(0, 2, 3)), true, certified(0, 1, 2, 3)},
		{"the root, votes for another block", turned(1, func(r *impl.Rep) { *r = joinedTo(*r, partOf(5, "/5|", 0, 2, 3)) }), true,
			votedFor(turned(1, func(r *impl.Rep) { *r = joinedTo(*r, partOf(5, "/5|", 0, 2, 3)) }), heardSafe(), heardName)},

		{"from view 1 on", atView(3, 1), true, heldBehind(votedFor(hearingRep(3), heardSafe(), heardName), 1, vote(3))},
		{"at the view below", atView(3, 4), true, heldBehind(votedFor(hearingRep(3), heardSafe(), heardName), 1, vote(3))},
		{"at the view above", atView(3, 6), true, wroteTo(atView(3, 6), seen)},
		{"at the last view", atView(3, 60), true, wroteTo(atView(3, 60), seen)},
		{"at the view above, seen already", turned(3, func(r *impl.Rep) { *r = wroteTo(*r, heardSafe()); r.View = 6 }), true,
			turned(3, func(r *impl.Rep) { *r = wroteTo(*r, heardSafe()); r.View = 6 })},

		{"voted for it already", votedFor(hearingRep(3), heardSafe(), heardName), true, votedFor(hearingRep(3), heardSafe(), heardName)},
		{"voted in its view already", turned(3, func(r *impl.Rep) { *r = wroteTo(*r, safeOf(5, 2, hearingSafe().High, "")) }), true,
			turned(3, func(r *impl.Rep) {
				*r = wroteTo(wroteTo(*r, safeOf(5, 2, hearingSafe().High, "")), heardSafe())
			})},
		{"voted above it", turned(3, func(r *impl.Rep) { r.View = 2; r.Safe.Voted = 6 }), true,
			turned(3, func(r *impl.Rep) { r.Safe.Voted = 6; *r = wroteTo(*r, safeOf(6, 3, heardQc(), "/2|")) })},
		{"a lock on the view of its certificate", turned(3, func(r *impl.Rep) { r.Safe.Lock = 4 }), true,
			heldBehind(votedFor(turned(3, func(r *impl.Rep) { r.Safe.Lock = 4 }), safeOf(5, 4, heardQc(), "/2|"), heardName), 1, vote(3))},
		{"a lock above its certificate", turned(3, func(r *impl.Rep) { r.View = 3; r.Safe.Lock = 5 }), true,
			turned(3, func(r *impl.Rep) { *r = wroteTo(*r, safeOf(4, 5, heardQc(), "/2|")) })},
		{"a later certificate is known", turned(3, func(r *impl.Rep) { r.Safe.High = qcOf(9, "/9|", 1, 2, 3) }), true,
			heldBehind(votedFor(turned(3, func(*impl.Rep) {}), safeOf(5, 3, qcOf(9, "/9|", 1, 2, 3), "/2|"), heardName), 1, vote(3))},
		{"nothing turns but the vote", turned(3, func(r *impl.Rep) { r.Safe = safeOf(4, 3, heardQc(), "/2|") }), true,
			heldBehind(votedFor(hearingRep(3), heardSafe(), heardName), 1, vote(3))},

		{"no room to tell", full(3), true, votedFor(full(3), heardSafe(), heardName)},
		{"no room to tell, nothing to tell", full(2), true, votedFor(full(2), heardSafe(), heardName)},

		{"not RepOk: Id", turned(3, func(r *impl.Rep) { r.Id = 4 }), false, impl.Rep{}},
		{"not RepOk: View", turned(3, func(r *impl.Rep) { r.View = 0 }), false, impl.Rep{}},
		{"not RepOk: View above MaxView", turned(3, func(r *impl.Rep) { r.View = 61 }), false, impl.Rep{}},
		{"not RepOk: Asked", turned(3, func(r *impl.Rep) { r.Asked = 61 }), false, impl.Rep{}},
		{"not RepOk: Safe", turned(3, func(r *impl.Rep) { r.Safe.Lock = -1 }), false, impl.Rep{}},
		{"not RepOk: Pool", turned(3, func(r *impl.Rep) { r.Pool[0].To = 4 }), false, impl.Rep{}},
		{"not RepOk: Table", turned(3, func(r *impl.Rep) { r.Table[0].Who = nil }), false, impl.Rep{}},
		{"not RepOk: Disk", turned(3, func(r *impl.Rep) { r.Disk.Sure = -1 }), false, impl.Rep{}},
		{"not RepOk: Held", turned(3, func(r *impl.Rep) { r.Held[0].To = 3 }), false, impl.Rep{}},
	}, blockMsg(heardBlock()))
}

// TestHearBlockAtEachView has each view of a block beside each View, and each
// view voted in.
func TestHearBlockAtEachView(t *testing.T) {
	c := impl.Conf{N: 4, Fan: 2}
	for view := 1; view <= 60; view++ {
		name := nameByWords(chainOf(view))
		b := blockOf(name, impl.QcFirst())
		for at := 1; at <= 60; at++ {
			for _, voted := range []int{0, view - 1, view, at, 60} {
				// Three places behind the root: a leaf, under the one behind the root.
				r := keptRep((view+3)%4, safeOf(voted, 0, impl.QcFirst(), ""))
				r.View = at
				want := cloneRep(r)
				if view >= at {
					want.View = view
				}
				if view >= at && view > voted {
					want = heldBehind(votedFor(r, safeOf(view, 0, impl.QcFirst(), ""), name), (view+1)%4, partMsg(partOf(view, name, r.Id)))
				}
				if got, ok := impl.HearBlock(c, r, b); !ok || !sameRep(got, want) {
					t.Fatalf("HearBlock of view %d at View %d, voted in %d = %v, %v, want %v", view, at, voted, got, ok, want)
				}
			}
		}
	}
}

// TestHearBlockAtEachLock has each lock beside each certificate.
func TestHearBlockAtEachLock(t *testing.T) {
	c := impl.Conf{N: 4, Fan: 2}
	for on := 0; on < 60; on++ {
		q := impl.QcFirst()
		if on > 0 {
			q = enoughQc(c, nameByWords(chainOf(on)))
		}
		for lock := 0; lock <= 60; lock++ {
			r := keptRep(1, safeOf(0, lock, impl.QcFirst(), ""))
			b := blockOf(q.Name+"/60|", q)
			got, ok := impl.HearBlock(c, r, b)
			voted := 0
			if on >= lock {
				voted = 60
			}
			if !ok || got.View != 60 || !sameSafe(got.Safe, safeOf(voted, lock, q, "")) || len(got.Table) != voted/60 || !impl.Kept(c, got) {
				t.Fatalf("HearBlock on view %d with a lock on %d = %v, %v", on, lock, got, ok)
			}
			checkHearBlock(t, c, r, b)
		}
	}
}

// TestHearBlockInEachTree has each one, with votes of each set of others in its
// table, in many trees and views.
func TestHearBlockInEachTree(t *testing.T) {
	for _, c := range []impl.Conf{{N: 4, Fan: 1}, {N: 4, Fan: 2}, {N: 5, Fan: 6}, {N: 7, Fan: 2}} {
		told, certified, neither := 0, 0, 0
		for _, view := range []int{1, 6, 59, 60} {
			name := nameByWords(chainOf(view))
			for id := range c.N {
				for bits := range 1 << c.N {
					r := keptRep(id)
					if bits > 0 {
						r.Table = []impl.Part{partOf(view, name, setOfBits(bits)...)}
					}
					got, ok := checkHearBlock(t, c, r, blockOf(name, impl.QcFirst()))
					here, under := setOfBits(bits|1<<id), underByWords(c, view, id)
					all := commonByWords(under, here) == len(under)
					switch {
					case !ok || got.Safe.Voted != view || !samePart(impl.TableGet(got.Table, view, name), partOf(view, name, here...)):
						t.Fatalf("%v: HearBlock of %d beside %v = %v, %v", c, id, setOfBits(bits), got, ok)
					case id == view%c.N && len(here) >= enoughOf(c.N):
						certified++
						wantTold := 1
						if view == 60 {
							wantTold = 0
						}
						if got.View != min(view+1, 60) || !sameQc(got.Safe.High, qcOf(view, name, here...)) || len(got.Held) != wantTold {
							t.Fatalf("%v: the root beside %v = %v", c, setOfBits(bits), got)
						}
					case id != view%c.N && all:
						told++
						if got.View != view || !samePosts(got.Held, []impl.Post{postOf(upByWords(c, view, id), partMsg(partOf(view, name, here...)))}) {
							t.Fatalf("%v: HearBlock of %d beside %v = %v", c, id, setOfBits(bits), got)
						}
					default:
						neither++
						if got.View != view || len(got.Held) != 0 || got.Safe.High.View != 0 {
							t.Fatalf("%v: HearBlock of %d beside %v = %v", c, id, setOfBits(bits), got)
						}
					}
				}
			}
		}
		if told < 50 || certified < 10 || neither < 50 {
			t.Errorf("%v: %d told, %d certified, %d neither", c, told, certified, neither)
		}
	}
}

// TestHearBlockNeedsRoom has as much room as there must be, and one less, at each
// place where something is put.
func TestHearBlockNeedsRoom(t *testing.T) {
	c := impl.Conf{N: 4, Fan: 2}
	b := heardBlock()
	// None of these parts is of view 5, and a joined one needs no room.
	var parts []impl.Part
	for view := 6; view < 26; view++ {
		parts = append(parts, partOf(view, "", 1))
	}
	for id := range 4 {
		for many := 18; many <= 20; many++ {
			r := hearingRep(id)
			r.Table = parts[:many]
			got, ok := checkHearBlock(t, c, r, b)
			if ok != (many < 20) || ok && (len(got.Table) != many+1 || got.Safe.Voted != 5) {
				t.Errorf("HearBlock with %d parts = %v, %v", many, got, ok)
			}
			// Of a view that is over, nothing is joined.
			r.View = 6
			if got, ok := checkHearBlock(t, c, r, b); !ok || len(got.Table) != many || got.Safe.Voted != 4 {
				t.Errorf("HearBlock of a view that is over, with %d parts = %v, %v", many, got, ok)
			}
		}
		r := hearingRep(id)
		r.Table = cloneParts(parts[:19])
		r = joinedTo(r, partOf(5, heardName, (id+1)%4))
		if got, ok := checkHearBlock(t, c, r, b); !ok || len(got.Table) != 20 || got.Safe.Voted != 5 {
			t.Errorf("HearBlock that joins one of 20 parts = %v, %v", got, ok)
		}
	}
}

// TestHearBlockNeedsRoomOnTheDisk has blocks that are seen alone, voted for, and
// certified by the vote: what climbs may lack room where the vote does not.
func TestHearBlockNeedsRoomOnTheDisk(t *testing.T) {
	c := impl.Conf{N: 4, Fan: 2}
	seen, voted := len(noteWritten(safeOf(0, 3, heardQc(), "/2|"))), len(noteWritten(heardSafe()))
	q := qcOf(5, heardName, 0, 1, 3)
	certified := len(noteWritten(safeOf(5, 4, q, "/2|/3|")))
	if certified <= voted {
		t.Fatal("the certificate needs no more room")
	}
	lefts := []int{0, 1, seen - 1, seen, voted - 1, voted, voted + 1, certified - 1, certified, certified + 1, voted + certified - 1, voted + certified, 2 * certified}
	for _, left := range lefts {
		for id := range 4 {
			over := fullBut(left)
			over.Id, over.View = id, 6
			if got, ok := checkHearBlock(t, c, over, heardBlock()); ok != (left >= seen) || ok && got.Safe.High.View != 4 {
				t.Errorf("HearBlock of a view that is over, with room for %d bytes = %v", left, ok)
			}
			at := fullBut(left)
			at.Id, at.View, at.Table = id, 5, []impl.Part{partOf(5, heardName, 0, 3)}
			for _, many := range []int{0, mostHeld - 1, mostHeld} {
				at.Held = heldTimes(many, postOf((id+1)%4, txMsg(impl.Tx{})))
				got, ok := checkHearBlock(t, c, at, heardBlock())
				if ok != (left >= voted) || ok && got.Safe.Voted != 5 {
					t.Errorf("HearBlock of %d with room for %d bytes = %v", id, left, ok)
				}
				high := 4
				if id == 1 && left >= certified && many < mostHeld {
					high = 5
				}
				if ok && (got.Safe.High.View != high || len(got.Disk.Bytes) != len(at.Disk.Bytes)+len(noteWritten(got.Safe))) {
					t.Errorf("HearBlock of %d with room for %d bytes and %d held: %v", id, left, many, got.Safe)
				}
			}
		}
	}
}

// TestHearBlockIsWrittenOnce: where the vote makes a certificate, what is held to
// then stands on the disk once.
func TestHearBlockIsWrittenOnce(t *testing.T) {
	c := impl.Conf{N: 4, Fan: 2}
	for _, who := range [][]int{{0, 2}, {0, 3}, {2, 3}, {0, 2, 3}} {
		for _, high := range []impl.Qc{heardQc(), qcOf(9, "/9|", 0, 1, 2)} {
			r := hearingRep(1)
			r.Safe.High = high
			r = joinedTo(r, partOf(5, heardName, who...))
			got, ok := checkHearBlock(t, c, r, heardBlock())
			if wrote := string(got.Disk.Bytes[len(r.Disk.Bytes):]); !ok || wrote != string(noteWritten(got.Safe)) || got.Safe.Voted != 5 || got.Safe.Lock != 4 {
				t.Errorf("beside %v, HearBlock writes %q, and holds to %v", who, wrote, got.Safe)
			}
		}
	}
	// A certificate that turns nothing more leaves the vote to be written.
	r := hearingRep(1)
	r.Safe = safeOf(4, 4, qcOf(9, "/9|", 0, 1, 2), "/2|/3|")
	r = joinedTo(r, partOf(5, heardName, 0, 2))
	got, ok := checkHearBlock(t, c, r, heardBlock())
	if want := safeOf(5, 4, qcOf(9, "/9|", 0, 1, 2), "/2|/3|"); !ok || !sameSafe(got.Safe, want) || len(got.Disk.Bytes) != len(r.Disk.Bytes)+len(noteWritten(want)) || len(got.Held) != 2 {
		t.Errorf("a certificate that turns nothing: %v, %v", got, ok)
	}
}

func TestHearBlocksAsTheWordsSay(t *testing.T) {
	four := impl.Conf{N: 4, Fan: 2}
	done, not := 0, 0
	hear := func(c impl.Conf, r impl.Rep, b impl.Block) {
		if _, ok := checkHearBlock(t, c, r, b); ok {
			done++
		} else {
			not++
		}
	}
	for _, r := range allReps() {
		for _, c := range []impl.Conf{four, {N: 7, Fan: 1}, {N: 3, Fan: 2}} {
			hear(c, r, blockOf("/2|/3|0>1:5#0", qcOf(2, "/2|", 0, 1, 3)))
			hear(c, r, blockOf("/9|", impl.QcFirst()))
		}
	}
	for _, b := range allBlocks(four) {
		for id := range 4 {
			for _, view := range []int{1, 3, 5, 60} {
				r := hearingRep(id)
				r.View = view
				hear(four, r, b)
			}
			hear(four, keptRep(id), b)
		}
		hear(four, busyRep(), b)
	}
	for _, s := range allSafes(four) {
		for _, b := range append(rightBlocks(four)[:20], heardBlock()) {
			hear(four, impl.Rep{Id: 2, View: 2, Safe: s}, b)
		}
	}
	for _, c := range allConfs() {
		for id := range 8 {
			hear(c, keptRep(id), blockOf("/7|", impl.QcFirst()))
			hear(c, keptRep(id), blockOf("/7|/9|", enoughQc(impl.Conf{N: 7, Fan: 1}, "/7|")))
		}
	}
	if done < 1000 || not < 1000 {
		t.Errorf("%d were heard, and %d were not", done, not)
	}
}

// TestHearPart has the tree of view 5 of four: 1 above 2 and 3, 2 above 0.
func TestHearPart(t *testing.T) {
	turned := func(id int, turn func(*impl.Rep)) impl.Rep {
		r := hearingRep(id)
		turn(&r)
		return r
	}
	voted := func(id int) impl.Rep { return votedFor(hearingRep(id), heardSafe(), heardName) }
	certified := func(who ...int) func(impl.Rep) impl.Rep {
		return func(r impl.Rep) impl.Rep {
			q := qcOf(5, heardName, who...)
			r = wroteTo(joinedTo(r, partOf(5, heardName, who...)), safeOf(r.Safe.Voted, 4, q, "/2|/3|"))
			r.View = 6
			return heldBehind(r, 2, viewMsg(6, 1, q))
		}
	}
	told := func(to int, who ...int) func(impl.Rep) impl.Rep {
		return func(r impl.Rep) impl.Rep {
			return heldBehind(joinedTo(r, partOf(5, heardName, who...)), to, partMsg(partOf(5, heardName, who...)))
		}
	}
	joined := func(who ...int) func(impl.Rep) impl.Rep {
		return func(r impl.Rep) impl.Rep { return joinedTo(r, partOf(5, heardName, who...)) }
	}
	atView := func(id, view int) impl.Rep { return turned(id, func(r *impl.Rep) { r.View = view }) }
	full := func(id int) impl.Rep {
		return turned(id, func(r *impl.Rep) { r.Held = heldTimes(mostHeld, r.Held[0]) })
	}
	for _, k := range []struct {
		name string
		r    impl.Rep
		who  []int
		want func(impl.Rep) impl.Rep
	}{
		{"the root, one of others", hearingRep(1), []int{3}, joined(3)},
		{"the root, two of others, without its own", hearingRep(1), []int{2, 3}, joined(2, 3)},
		{"the root, enough of others", hearingRep(1), []int{0, 2, 3}, certified(0, 2, 3)},
		{"the root, its own and one", voted(1), []int{3}, joined(1, 3)},
		{"the root, its own and two", voted(1), []int{0, 2}, certified(0, 1, 2)},
		{"the root, its own among them", voted(1), []int{1, 3}, joined(1, 3)},
		{"the root, its own that it has not voted", hearingRep(1), []int{0, 1, 3}, certified(0, 1, 3)},
		{"the root, all", hearingRep(1), []int{0, 1, 2, 3}, certified(0, 1, 2, 3)},
		{"the root, who is there already", joined(0, 3)(hearingRep(1)), []int{3}, joined(0, 3)},
		{"the root, one more than enough", joined(0, 1, 3)(hearingRep(1)), []int{2}, certified(0, 1, 2, 3)},
		{"the root, nobody more than enough", joined(0, 1, 3)(hearingRep(1)), []int{0}, certified(0, 1, 3)},
		{"all under it", voted(2), []int{0}, told(1, 0, 2)},
		{"all under it and others", voted(2), []int{0, 3}, told(1, 0, 2, 3)},
		{"all under it, once more", joined(0)(voted(2)), []int{0}, told(1, 0, 2)},
		{"not all under it", voted(2), []int{1, 3}, joined(1, 2, 3)},
		{"not its own", hearingRep(2), []int{0}, joined(0)},
		{"its own and all under it", hearingRep(2), []int{0, 2}, told(1, 0, 2)},
		{"a leaf, of others", hearingRep(3), []int{0, 1, 2}, joined(0, 1, 2)},
		{"a leaf, its own", hearingRep(3), []int{3}, told(1, 3)},
		{"a leaf, beside its own", voted(3), []int{0}, told(1, 0, 3)},
		{"a low leaf, beside its own", voted(0), []int{3}, told(2, 0, 3)},
		{"from view 1 on", atView(2, 1), []int{0}, joined(0)},
		{"at the view below", atView(2, 4), []int{0, 2}, told(1, 0, 2)},
		{"the root, at the view below", atView(1, 4), []int{0, 2, 3}, certified(0, 2, 3)},
		{"no room to tell", full(2), []int{0, 2}, joined(0, 2)},
		{"the root, no room to tell", full(1), []int{0, 2, 3}, joined(0, 2, 3)},

		{"a view that is over", atView(2, 6), []int{0, 2}, nil},
		{"at the last view", atView(2, 60), []int{0, 2}, nil},
		{"the root, a view that is over", atView(1, 6), []int{0, 2, 3}, nil},
		{"nobody", hearingRep(1), nil, nil},
		{"somebody twice", hearingRep(1), []int{2, 2, 3}, nil},
		{"in no order", hearingRep(1), []int{3, 2, 0}, nil},
		{"-1", hearingRep(1), []int{-1, 0, 2}, nil},
		{"N", hearingRep(1), []int{0, 2, 4}, nil},
		{"not RepOk: Id", turned(1, func(r *impl.Rep) { r.Id = -1 }), []int{0, 2, 3}, nil},
		{"not RepOk: View", turned(1, func(r *impl.Rep) { r.View = 0 }), []int{0, 2, 3}, nil},
		{"not RepOk: Asked", turned(1, func(r *impl.Rep) { r.Asked = -1 }), []int{0, 2, 3}, nil},
		{"not RepOk: Safe", turned(1, func(r *impl.Rep) { r.Safe.Voted = 61 }), []int{0, 2, 3}, nil},
		{"not RepOk: Pool", turned(1, func(r *impl.Rep) { r.Pool[0].Amount = -1 }), []int{0, 2, 3}, nil},
		{"not RepOk: Table", turned(1, func(r *impl.Rep) { r.Table[0].View = 7 }), []int{0, 2, 3}, nil},
		{"not RepOk: Disk", turned(1, func(r *impl.Rep) { r.Disk.Sure = 1000 }), []int{0, 2, 3}, nil},
		{"not RepOk: Held", turned(1, func(r *impl.Rep) { r.Held[0].Msg.Kind = 0 }), []int{0, 2, 3}, nil},
	} {
		one := heardCase{name: k.name, r: k.r, ok: k.want != nil}
		if one.ok {
			one.want = k.want(k.r)
		}
		checkHeardCases(t, []heardCase{one}, partMsg(partOf(5, heardName, k.who...)))
	}
}

// TestHearPartOfNames has names of the view, of others, and none.
func TestHearPartOfNames(t *testing.T) {
	c := impl.Conf{N: 4, Fan: 2}
	full := nameByWords(chainOf(append(viewsFrom(1, 29), 40)...))
	for _, k := range []struct {
		view int
		name string
		want bool
	}{
		{5, "/5|", true}, {5, heardName, true}, {6, "/2|/6|", true}, {60, "/60|", true}, {60, "/1|/60|", true}, {40, full, true},
		{5, "", false}, {6, "", false}, {60, "", false}, {5, "/6|", false}, {6, "/5|", false}, {5, "/5|/6|", false}, {6, "/6|/7|", false},
		{4, "/4|", false}, {4, "/2|/3|/4|", false}, {1, "/1|", false}, {0, "/0|", false}, {0, "", false}, {-5, "/5|", false}, {61, "/61|", false}, {61, "/60|", false},
		{5, "/5", false}, {5, "5|", false}, {5, "/5|x", false}, {5, "/5|0>4:5#0", false}, {5, "/5|0>1:5#0,", false}, {5, "/05|", false}, {5, "/6|/5|", false},
		{5, "/5|0>1:1#0,0>1:1#1,0>1:1#2", false}, {41, full + "/41|", false}, {1<<32 + 5, "/5|", false}, {math.MaxInt, "/60|", false}, {math.MinInt, "/5|", false},
	} {
		for id := range 4 {
			r := hearingRep(id)
			got, ok := checkHearPart(t, c, r, partOf(k.view, k.name, 1))
			if ok != k.want || ok && !sameRep(got, joinedTo(r, partOf(k.view, k.name, 1))) && id != 1 {
				t.Errorf("HearPart of view %d, %q = %v, %v", k.view, k.name, got, ok)
			}
		}
	}
}

// TestHearPartAtEachView has each view of a part beside each View.
func TestHearPartAtEachView(t *testing.T) {
	c := impl.Conf{N: 4, Fan: 2}
	for view := 1; view <= 60; view++ {
		name := nameByWords(chainOf(view))
		for at := 1; at <= 60; at++ {
			for id := range 4 {
				r := impl.Rep{Id: id, View: at}
				got, ok := checkHearPart(t, c, r, partOf(view, name, 0, 1, 2, 3))
				next := at
				if id == view%4 && view < 60 {
					next = view + 1
				}
				if ok != (view >= at) || ok && (got.View != next || len(got.Table) != 1) {
					t.Fatalf("HearPart of view %d by %d at View %d = %v, %v", view, id, at, got, ok)
				}
			}
		}
	}
}

// TestHearPartOfEachTwo joins each set to each other set, in many trees.
func TestHearPartOfEachTwo(t *testing.T) {
	for _, c := range []impl.Conf{{N: 4, Fan: 1}, {N: 4, Fan: 3}, {N: 5, Fan: 2}} {
		climbed, joined := 0, 0
		for _, view := range []int{2, 3, 60} {
			name := nameByWords(chainOf(view))
			for id := range c.N {
				for there := range 1 << c.N {
					for more := 1; more < 1<<c.N; more++ {
						r := impl.Rep{Id: id, View: 1 + there%view}
						if there > 0 {
							r.Table = []impl.Part{partOf(view, name, setOfBits(there)...)}
						}
						got, ok := checkHearPart(t, c, r, partOf(view, name, setOfBits(more)...))
						if !ok || !sameParts(got.Table, []impl.Part{partOf(view, name, setOfBits(there|more)...)}) {
							t.Fatalf("%v: HearPart of %d, %v and %v = %v, %v", c, id, setOfBits(there), setOfBits(more), got, ok)
						}
						if len(got.Held) > 0 || len(got.Disk.Bytes) > 0 {
							climbed++
						} else {
							joined++
						}
					}
				}
			}
		}
		if climbed < 100 || joined < 100 {
			t.Errorf("%v: %d climbed, and %d were joined alone", c, climbed, joined)
		}
	}
}

// TestHearPartNeedsRoom has as much room as there must be, and one less. What
// climbs may lack room: it is joined all the same.
func TestHearPartNeedsRoom(t *testing.T) {
	c := impl.Conf{N: 4, Fan: 2}
	for id := range 4 {
		for many := 18; many <= 20; many++ {
			r := impl.Rep{Id: id, View: 1, Table: fullTable()[:many]}
			if got, ok := checkHearPart(t, c, r, partOf(20, "/20|", 0, 1, 2, 3)); ok != (many < 20) || ok && len(got.Table) != many+1 {
				t.Errorf("HearPart with %d parts = %v", many, ok)
			}
			if got, ok := checkHearPart(t, c, r, partOf(5, "/2|/5|", 1)); !ok || len(got.Table) != many {
				t.Errorf("HearPart that joins one of %d parts = %v", many, ok)
			}
		}
	}
	seen := safeOf(0, 4, qcOf(5, fiveName, 0, 1, 2), "/3|")
	long := len(noteWritten(seen))
	for _, left := range []int{0, 1, long - 1, long, long + 1} {
		for _, many := range []int{0, mostHeld - 1, mostHeld} {
			r := fullBut(left)
			r.View, r.Held = 5, heldTimes(many, postOf(3, txMsg(impl.Tx{})))
			got, ok := checkHearPart(t, c, r, partOf(5, fiveName, 0, 1, 2))
			room := left >= long && many < mostHeld
			if !ok || len(got.Table) != 1 || (got.Safe.High.View == 5) != room || (got.View == 6) != room || (len(got.Held) > many) != room {
				t.Errorf("HearPart with room for %d bytes and %d held = %v, %v", left, many, got.Safe, ok)
			}
		}
	}
}

func TestHearPartsAsTheWordsSay(t *testing.T) {
	four := impl.Conf{N: 4, Fan: 2}
	done, not := 0, 0
	hear := func(c impl.Conf, r impl.Rep, p impl.Part) {
		if _, ok := checkHearPart(t, c, r, p); ok {
			done++
		} else {
			not++
		}
	}
	for _, r := range allReps() {
		for _, c := range []impl.Conf{four, {N: 7, Fan: 1}, {N: 3, Fan: 2}} {
			hear(c, r, partOf(9, "/9|", 0, 2))
			hear(c, r, partOf(60, "/60|", 0, 1, 2, 3))
		}
	}
	for _, p := range addedParts() {
		for id := range 4 {
			for _, list := range rightTables() {
				for _, view := range []int{1, 3, 10, 60} {
					hear(four, impl.Rep{Id: id, View: view, Table: list}, p)
				}
			}
		}
	}
	for _, list := range allTables() {
		hear(four, impl.Rep{Id: 2, View: 2, Table: list}, partOf(2, "/2|", 2))
		hear(four, impl.Rep{Id: 1, View: 1, Table: list}, partOf(5, "/2|/5|", 0, 1, 2))
	}
	for _, c := range allConfs() {
		for id := range 8 {
			hear(c, keptRep(id), partOf(9, "/9|", 0, 1, 2, 3))
			hear(c, keptRep(id), partOf(9, "/9|", 0, 1, 2, 3, 4))
			hear(c, keptRep(id), partOf(9, "/9|", 6))
		}
	}
	if done < 1000 || not < 1000 {
		t.Errorf("%d were heard, and %d were not", done, not)
	}
}

// lateRep is the root of view 9 of four, at View 5, with these late in view 9.
func lateRep(who ...int) impl.Rep {
	r := hearingRep(1)
	r.Table = []impl.Part{partOf(4, "/2|/3|/4|", 3), partOf(8, "", 0, 2, 3), partOf(9, "/9|", 0, 2, 3), partOf(10, "", 0, 2, 3)}
	if len(who) > 0 {
		r = joinedTo(r, partOf(9, "", who...))
	}
	return r
}

func TestHearView(t *testing.T) {
	c := impl.Conf{N: 4, Fan: 2}
	first, low, same := impl.QcFirst(), qcOf(2, "/2|", 0, 1, 2), hearingSafe().High
	later := qcOf(6, "/2|/3|/6|", 1, 2, 3)
	last, before := qcOf(60, "/60|", 0, 1, 2), qcOf(59, "/59|", 0, 1, 2)
	seen := func(q impl.Qc) impl.Safe { return seeByWords(c, hearingSafe(), q) }
	// want is of who is late in view 9 then, of what is held to, and at which View.
	late := func(view int, s impl.Safe, who ...int) impl.Rep {
		r := lateRep(who...)
		r.View = view
		if !sameSafe(s, r.Safe) {
			r = wroteTo(r, s)
		}
		return r
	}
	at := func(view int, r impl.Rep) impl.Rep {
		r.View = view
		return r
	}
	other := func(view int, r impl.Rep) impl.Rep {
		r.Id, r.View, r.Held = 2, view, nil
		return r
	}
	no := impl.Rep{}
	cases := []struct {
		name string
		r    impl.Rep
		view int
		q    impl.Qc
		who  int
		ok   bool
		want impl.Rep
	}{
		{"the first one", lateRep(), 9, first, 3, true, late(5, hearingSafe(), 3)},
		{"the second one", lateRep(0), 9, first, 3, true, late(5, hearingSafe(), 0, 3)},
		{"who is there already", lateRep(0, 3), 9, first, 3, true, late(5, hearingSafe(), 0, 3)},
		{"enough", lateRep(0, 3), 9, first, 2, true, late(9, hearingSafe(), 0, 2, 3)},
		{"enough with itself", lateRep(0, 1), 9, first, 2, true, late(9, hearingSafe(), 0, 1, 2)},
		{"itself", lateRep(0, 2), 9, first, 1, true, late(9, hearingSafe(), 0, 1, 2)},
		{"more than enough", lateRep(0, 1, 2), 9, first, 3, true, late(9, hearingSafe(), 0, 1, 2, 3)},
		{"enough are there already", lateRep(0, 1, 2), 9, first, 0, true, late(9, hearingSafe(), 0, 1, 2)},
		{"who 0", lateRep(), 9, first, 0, true, late(5, hearingSafe(), 0)},

		{"an earlier certificate", lateRep(), 9, low, 3, true, late(5, hearingSafe(), 3)},
		{"the same certificate", lateRep(), 9, same, 3, true, late(5, hearingSafe(), 3)},
		{"a later certificate", lateRep(), 9, later, 3, true, late(7, seen(later), 3)},
		{"a later certificate, enough", lateRep(0, 1), 9, later, 3, true, late(9, seen(later), 0, 1, 3)},
		{"one of the view below", lateRep(), 9, qcOf(8, "/8|", 0, 1, 2), 3, true, late(9, seen(qcOf(8, "/8|", 0, 1, 2)), 3)},
		{"one of that view", lateRep(), 9, qcOf(9, "/9|", 0, 1, 2), 3, true, late(10, seen(qcOf(9, "/9|", 0, 1, 2)), 3)},
		{"one above, enough", lateRep(0, 1), 9, qcOf(20, "/20|", 0, 1, 2), 3, true, late(21, seen(qcOf(20, "/20|", 0, 1, 2)), 0, 1, 3)},
		{"one of the last view but one", lateRep(), 9, before, 3, true, late(60, seen(before), 3)},
		{"one of the last view", lateRep(), 9, last, 3, true, late(60, seen(last), 3)},
		{"a certificate that locks and settles", lateRep(), 9, heardQc(), 3, true, late(5, seen(heardQc()), 3)},

		{"at the view below", at(8, lateRep()), 9, first, 3, true, late(8, hearingSafe(), 3)},
		{"at the view below, enough", at(8, lateRep(0, 1)), 9, first, 3, true, late(9, hearingSafe(), 0, 1, 3)},
		{"at that view", at(9, lateRep()), 9, first, 3, true, late(9, hearingSafe(), 3)},
		{"at that view, enough", at(9, lateRep(0, 1)), 9, first, 3, true, late(9, hearingSafe(), 0, 1, 3)},
		{"at the view above", at(10, lateRep()), 9, first, 3, true, late(10, hearingSafe())},
		{"at the view above, one less than enough", at(10, lateRep(0, 1)), 9, first, 3, true, late(10, hearingSafe(), 0, 1)},
		{"at the view above, enough", at(10, lateRep(0, 1, 2)), 9, first, 3, true, late(10, hearingSafe(), 0, 1, 2)},
		{"at the view above, a later certificate", at(10, lateRep()), 9, later, 3, true, late(10, seen(later))},
		{"at the view above, one above that", at(10, lateRep()), 9, qcOf(20, "/20|", 0, 1, 2), 3, true, late(21, seen(qcOf(20, "/20|", 0, 1, 2)))},
		{"at the last view", at(60, lateRep()), 9, later, 3, true, late(60, seen(later))},

		{"another one", other(5, lateRep()), 9, first, 3, true, other(5, lateRep())},
		{"another one, a later certificate", other(5, lateRep()), 9, later, 3, true, other(7, wroteTo(lateRep(), seen(later)))},
		{"another one, one of the last view", other(5, lateRep()), 9, last, 3, true, other(60, wroteTo(lateRep(), seen(last)))},
		{"another one, one less than enough", other(5, lateRep(0, 1)), 9, first, 3, true, other(5, lateRep(0, 1))},
		{"the root of another view", lateRep(), 8, first, 3, true, at(8, lateRep())},

		{"view 0", lateRep(), 0, first, 3, false, no},
		{"view 61", lateRep(), 61, first, 3, false, no},
		{"view -9", lateRep(), -9, first, 3, false, no},
		{"the same low bits", lateRep(), 1<<32 + 9, first, 3, false, no},
		{"the greatest view", lateRep(), math.MaxInt, first, 3, false, no},
		{"the least view", lateRep(), math.MinInt, first, 3, false, no},
		{"who -1", lateRep(), 9, first, -1, false, no},
		{"who -1, another one", other(5, lateRep()), 9, later, -1, false, no},
		{"who N", lateRep(), 9, first, 4, false, no},
		{"who N, another one", other(5, lateRep()), 9, later, 4, false, no},
		{"who with the same low bits", lateRep(), 9, first, 1<<32 + 3, false, no},
		{"the greatest who", other(5, lateRep()), 9, later, math.MaxInt, false, no},
		{"the least who", other(5, lateRep()), 9, later, math.MinInt, false, no},
		{"too few certify", lateRep(), 9, qcOf(6, "/6|", 1, 2), 3, false, no},
		{"another view certified", lateRep(), 9, qcOf(7, "/6|", 0, 1, 2), 3, false, no},
		{"the beginning certified", lateRep(), 9, qcOf(0, "", 0, 1, 2), 3, false, no},
		{"a certificate of the view above MaxView", lateRep(), 9, qcOf(61, "/61|", 0, 1, 2), 3, false, no},
		{"not RepOk: Id", at(5, func() impl.Rep { r := lateRep(); r.Id = 5; return r }()), 9, first, 3, false, no},
		{"not RepOk: View", at(0, lateRep()), 9, first, 3, false, no},
		{"not RepOk: View above MaxView", at(61, lateRep()), 9, first, 3, false, no},
		{"not RepOk: Held", func() impl.Rep { r := lateRep(); r.Held[0].To = 1; return r }(), 9, first, 3, false, no},
		{"not RepOk: Safe", func() impl.Rep { r := lateRep(); r.Safe.Done = "x"; return r }(), 9, first, 3, false, no},
	}
	for _, k := range cases {
		if k.who >= 0 && k.who < 4 {
			checkHeardCases(t, []heardCase{{k.name, k.r, k.ok, k.want}}, viewMsg(k.view, k.who, k.q))
		}
		want := k.want
		if !k.ok {
			want = k.r
		}
		if got, ok := checkHearView(t, c, k.r, k.view, k.q, k.who); ok != k.ok || !sameRep(got, want) {
			t.Errorf("%s: HearView = %v, %v, want %v", k.name, got, ok, want)
		}
	}
}

// TestHearViewAtEachView has each view beside each View, with one less than
// enough and with enough.
func TestHearViewAtEachView(t *testing.T) {
	c := impl.Conf{N: 4, Fan: 2}
	for view := 1; view <= 60; view++ {
		for at := 1; at <= 60; at++ {
			for id := range 4 {
				for _, there := range [][]int{nil, {3}, {1, 3}, {1, 2, 3}} {
					r := impl.Rep{Id: id, View: at}
					if there != nil {
						r.Table = []impl.Part{partOf(view, "", there...)}
					}
					got, ok := checkHearView(t, c, r, view, impl.QcFirst(), 0)
					now := impl.TableGet(got.Table, view, "").Who
					joins := id == view%4 && view >= at
					if !ok || slices.Contains(now, 0) != joins || got.View != at && !(view > at && len(now) >= 3 && got.View == view) {
						t.Fatalf("HearView of %d at View %d, view %d, beside %v = %v, %v", id, at, view, there, got, ok)
					}
				}
			}
		}
	}
}

// TestHearViewOfEachCertificate has a certificate of each view beside each View.
func TestHearViewOfEachCertificate(t *testing.T) {
	c := impl.Conf{N: 4, Fan: 2}
	for high := 0; high <= 60; high++ {
		q := impl.QcFirst()
		if high > 0 {
			q = enoughQc(c, nameByWords(chainOf(high)))
		}
		for at := 1; at <= 60; at++ {
			for id := range 4 {
				r := keptRep(id, safeOf(0, 0, qcOf(30, "/30|", 1, 2, 3), ""))
				r.View = at
				got, ok := checkHearView(t, c, r, 7, q, 2)
				if !ok || got.View != max(at, min(high+1, 60)) || got.Safe.High.View != max(high, 30) || !impl.Kept(c, got) {
					t.Fatalf("HearView of %d at View %d with a certificate of view %d = %v, %v", id, at, high, got, ok)
				}
			}
		}
	}
}

func TestHearViewNeedsRoom(t *testing.T) {
	c := impl.Conf{N: 4, Fan: 2}
	q := qcOf(6, "/2|/3|/6|", 1, 2, 3)
	for many := 18; many <= 20; many++ {
		// Root of view 7, none of whose parts is there.
		r := impl.Rep{Id: 3, View: 2, Table: fullTable()[:many]}
		got, ok := checkHearView(t, c, r, 7, q, 1)
		if ok != (many < 20) || ok && (len(got.Table) != many+1 || got.View != 7) {
			t.Errorf("HearView with %d parts = %v, %v", many, got, ok)
		}
		// Where it is joined, or nobody is added, there is room.
		for _, one := range []struct{ id, view, at int }{{1, 5, 2}, {1, 9, 2}, {0, 7, 2}, {3, 7, 8}} {
			r := impl.Rep{Id: one.id, View: one.at, Table: fullTable()[:many]}
			if got, ok := checkHearView(t, c, r, one.view, q, 1); !ok || len(got.Table) != many {
				t.Errorf("HearView of %d, view %d, with %d parts = %v", one.id, one.view, many, ok)
			}
		}
	}
	long := len(noteWritten(safeOf(0, 3, q, "")))
	for _, left := range []int{0, 1, long - 1, long, long + 1} {
		for id := range 4 {
			r := fullBut(left)
			r.Id, r.Held = id, heldTimes(mostHeld, postOf((id+1)%4, txMsg(impl.Tx{})))
			if got, ok := checkHearView(t, c, r, 7, q, 1); ok != (left >= long) || ok && (got.View != 7 || got.Safe.High.View != 6) {
				t.Errorf("HearView of %d with room for %d bytes = %v", id, left, ok)
			}
			// What turns nothing needs no room.
			if got, ok := checkHearView(t, c, r, 7, impl.QcFirst(), 1); !ok || len(got.Table) != id/3 {
				t.Errorf("HearView of %d of what is seen already, with room for %d bytes = %v", id, left, ok)
			}
		}
	}
}

func TestHearViewsAsTheWordsSay(t *testing.T) {
	four := impl.Conf{N: 4, Fan: 2}
	done, not := 0, 0
	hear := func(c impl.Conf, r impl.Rep, view int, q impl.Qc, who int) {
		if _, ok := checkHearView(t, c, r, view, q, who); ok {
			done++
		} else {
			not++
		}
	}
	for _, r := range allReps() {
		for _, c := range []impl.Conf{four, {N: 7, Fan: 1}, {N: 3, Fan: 2}} {
			hear(c, r, 10, qcOf(2, "/2|", 0, 1, 2), 0)
			hear(c, r, 7, enoughQc(c, "/9|"), 3)
		}
	}
	for _, q := range append(rightQcs(four), wrongQcs()...) {
		for id := range 4 {
			for view := 0; view <= 61; view += 1 + view%7 {
				hear(four, hearingRep(id), view, q, (id+view)%5)
			}
		}
	}
	for _, list := range allTables() {
		hear(four, impl.Rep{Id: 1, View: 2, Table: list}, 9, impl.QcFirst(), 2)
		hear(four, impl.Rep{Id: 2, View: 2, Table: list}, 10, impl.QcFirst(), 0)
	}
	for _, s := range allSafes(four) {
		hear(four, impl.Rep{Id: 2, View: 2, Safe: s}, 6, heardQc(), 2)
	}
	for _, c := range allConfs() {
		for id := range 8 {
			for who := -1; who <= 8; who++ {
				hear(c, keptRep(id), 9, impl.QcFirst(), who)
			}
		}
	}
	if done < 1000 || not < 1000 {
		t.Errorf("%d were heard, and %d were not", done, not)
	}
}

func TestHearTx(t *testing.T) {
	x := impl.Tx{From: 1, To: 3, Amount: 1000, Nonce: 99}
	pools := func(p ...impl.Tx) impl.Rep {
		r := hearingRep(0)
		r.Pool = p
		return r
	}
	wrong := pools()
	wrong.View = 0
	full := fullPool()
	room := full[:11]
	checkHeardCases(t, []heardCase{
		{"the first one", pools(), true, pools(x)},
		{"behind another", pools(impl.Tx{From: 0}), true, pools(impl.Tx{From: 0}, x)},
		{"ahead of another", pools(impl.Tx{From: 2}), true, pools(x, impl.Tx{From: 2})},
		{"between two", pools(impl.Tx{From: 1, Nonce: 98}, impl.Tx{From: 2}), true, pools(impl.Tx{From: 1, Nonce: 98}, x, impl.Tx{From: 2})},
		{"the last one that has room", pools(room...), true, pools(slices.Concat(room[:6], []impl.Tx{x}, room[6:])...)},
		{"one too many", pools(full...), false, impl.Rep{}},
		{"it waits already", pools(x), false, impl.Rep{}},
		{"another one of its number waits", pools(impl.Tx{From: 1, Nonce: 99}), false, impl.Rep{}},
		{"not RepOk", wrong, false, impl.Rep{}},
		{"a pool that is none", pools(impl.Tx{From: 4}), false, impl.Rep{}},
		{"a pool in no order", pools(impl.Tx{From: 3}, impl.Tx{From: 2}), false, impl.Rep{}},
	}, txMsg(x))
	c := impl.Conf{N: 4, Fan: 2}
	for _, x := range wrongTxs() {
		for _, p := range [][]impl.Tx{nil, full[:3], full} {
			if got, ok := checkHearTx(t, c, pools(p...), x); ok || !sameRep(got, pools(p...)) {
				t.Fatalf("HearTx of %v = %v", x, ok)
			}
		}
	}
}

func TestHearTxsAsTheWordsSay(t *testing.T) {
	c := impl.Conf{N: 4, Fan: 2}
	done, not := 0, 0
	hear := func(c impl.Conf, r impl.Rep, x impl.Tx) {
		if _, ok := checkHearTx(t, c, r, x); ok {
			done++
		} else {
			not++
		}
	}
	for _, r := range allReps() {
		for _, c := range []impl.Conf{c, {N: 7, Fan: 1}, {N: 3, Fan: 2}} {
			hear(c, r, impl.Tx{From: 2, Nonce: 7})
		}
	}
	for _, p := range allPools() {
		for _, x := range []impl.Tx{{}, {From: 1, Nonce: 2, To: 1}, {From: 3, Nonce: 50}, {From: 2, Amount: 1001}} {
			hear(c, impl.Rep{Id: 3, View: 7, Pool: p}, x)
		}
	}
	for _, x := range append(sampleTxs(), wrongTxs()...) {
		hear(c, busyRep(), x)
	}
	for _, c := range allConfs() {
		for id := range 8 {
			hear(c, keptRep(id), impl.Tx{To: 2})
		}
	}
	if done < 500 || not < 500 {
		t.Errorf("%d were heard, and %d were not", done, not)
	}
}

// hearers has replicas of which each has parts and payments that are gone past.
func hearers() []impl.Rep {
	var out []impl.Rep
	for id := range 4 {
		for _, view := range []int{1, 6, 60} {
			r := keptRep(id, safeOf(2, 0, qcOf(2, "/1|0>1:5#0/2|", 0, 1, 2), "/1|0>1:5#0"))
			r.View, r.Table = view, fullTable()[:12]
			r.Pool = []impl.Tx{{From: 0}, {From: 0, Nonce: 1}, {From: 1}}
			out = append(out, r)
		}
	}
	return append(out, busyRep(), hearingRep(1), hearingRep(3), rootRep(0, 1, 2), keptRep(2))
}

func TestHear(t *testing.T) {
	c := impl.Conf{N: 4, Fan: 2}
	for _, r := range hearers() {
		done := map[int]int{}
		for _, m := range allMsgs(c) {
			got, ok := checkHear(t, c, r, m)
			if !ok {
				continue
			}
			done[m.Kind]++
			one, _ := hearMsg(c, r, m)
			one.Table, one.Pool = got.Table, got.Pool
			if !sameRep(one, got) {
				t.Fatalf("Hear of %v is another answer than that of its kind", m)
			}
		}
		if done[kindBlock] == 0 || done[kindView] == 0 || done[kindTx] == 0 || done[kindPart] == 0 {
			t.Errorf("at View %d, of each kind were heard %v", r.View, done)
		}
	}
}

// TestHearIsTheFunctionOfItsKind: Hear finds who hears in a map, each other
// function without it. Both answer alike, of each kind.
func TestHearIsTheFunctionOfItsKind(t *testing.T) {
	c := impl.Conf{N: 4, Fan: 2}
	done, not := map[int]int{}, map[int]int{}
	for _, r := range append(hearers(), wrongReps()[:3]...) {
		for _, m := range slices.Concat(allMsgs(c), heardMsgs()) {
			if m.Kind < kindBlock || m.Kind > kindTx || !impl.MsgOk(c, m) {
				continue
			}
			got, ok := impl.Hear(c, r, m)
			want, wantOk := hearMsg(c, r, m)
			if wantOk {
				done[m.Kind]++
				want.Table = impl.TableDrop(want.Table, want.View-1)
				want.Pool = impl.PoolDrop(want.Pool, impl.State(c, want))
			} else {
				not[m.Kind]++
			}
			if ok != wantOk || !sameRep(got, want) {
				t.Fatalf("Hear of %v by %v = %v, %v, its kind alone %v, %v", m, r, got, ok, want, wantOk)
			}
		}
	}
	for kind := kindBlock; kind <= kindTx; kind++ {
		if done[kind] < 10 || not[kind] < 10 {
			t.Errorf("kind %d: %d were heard, and %d were not", kind, done[kind], not[kind])
		}
	}
}

func TestHearsAsTheWordsSay(t *testing.T) {
	four := impl.Conf{N: 4, Fan: 2}
	for _, r := range allReps() {
		for _, c := range []impl.Conf{four, {N: 7, Fan: 1}, {N: 3, Fan: 2}} {
			for _, m := range fewMsgs() {
				checkHear(t, c, r, m)
			}
		}
	}
	for _, c := range allConfs() {
		for id := range 8 {
			for _, m := range []impl.Msg{blockMsg(blockOf("/7|", impl.QcFirst())), partMsg(partOf(9, "/9|", 0, 1, 2, 3)), viewMsg(9, 2, impl.QcFirst()), txMsg(impl.Tx{})} {
				checkHear(t, c, keptRep(id), m)
			}
		}
	}
}

// TestHearOfNoMessage has what is right of one kind and is no message all the
// same.
func TestHearOfNoMessage(t *testing.T) {
	c := impl.Conf{N: 4, Fan: 2}
	whole := impl.Msg{View: 9, Block: heardBlock(), Part: partOf(9, "/9|", 1), Qc: heardQc(), Who: 2, Tx: impl.Tx{To: 1}}
	for _, r := range hearers() {
		for _, kind := range []int{0, 1, 2, 3, 4, 5, -1, 1 << 32, 1<<32 + 1, math.MinInt, math.MaxInt} {
			m := whole
			m.Kind = kind
			if got, ok := impl.Hear(c, r, m); ok || !sameRep(got, r) {
				t.Fatalf("Hear of kind %d with all = %v", kind, ok)
			}
			if got, ok := impl.Hear(c, r, impl.Msg{Kind: kind}); ok && kind != kindTx || !ok && !sameRep(got, r) {
				t.Fatalf("Hear of kind %d with nothing = %v", kind, ok)
			}
		}
		for _, m := range []impl.Msg{
			{Kind: kindBlock, Block: heardBlock(), View: 5}, {Kind: kindBlock, Block: heardBlock(), Who: 1}, {Kind: kindBlock, Block: heardBlock(), Qc: heardQc()},
			{Kind: kindPart, Part: whole.Part, Tx: impl.Tx{To: 1}}, {Kind: kindPart, Part: whole.Part, Block: heardBlock()},
			{Kind: kindView, View: 9, Qc: heardQc(), Tx: impl.Tx{To: 1}}, {Kind: kindView, View: 9, Qc: heardQc(), Part: whole.Part},
			{Kind: kindTx, Tx: impl.Tx{To: 1}, View: 1}, {Kind: kindTx, Tx: impl.Tx{To: 1}, Who: 1},
		} {
			if got, ok := impl.Hear(c, r, m); ok || !sameRep(got, r) {
				t.Fatalf("Hear of %v = %v", m, ok)
			}
		}
	}
}

// TestHearDropsWhatIsOver: the table has nothing below View less 1, by the View
// that the message makes.
func TestHearDropsWhatIsOver(t *testing.T) {
	c := impl.Conf{N: 4, Fan: 2}
	var table []impl.Part
	for view := 1; view <= 10; view++ {
		table = append(table, partOf(view, "", view%4), partOf(view, nameByWords(chainOf(view)), 2))
	}
	from := func(view int, more ...impl.Part) []impl.Part {
		var out []impl.Part
		for _, p := range append(cloneParts(table), more...) {
			if p.View >= view {
				out = append(out, p)
			}
		}
		return out
	}
	for at := 1; at <= 11; at++ {
		r := impl.Rep{Id: 2, View: at, Table: table}
		if got, ok := impl.Hear(c, r, txMsg(impl.Tx{})); !ok || !sameParts(got.Table, from(at-1)) {
			t.Errorf("Hear of a payment at View %d leaves %v", at, got.Table)
		}
		if got, ok := impl.HearTx(c, r, impl.Tx{}); !ok || !sameParts(got.Table, table) {
			t.Errorf("HearTx at View %d leaves %v", at, got.Table)
		}
		for view := 1; view <= 10; view++ {
			q := enoughQc(c, nameByWords(chainOf(view)))
			if got, ok := impl.Hear(c, r, viewMsg(3, 0, q)); !ok || !sameParts(got.Table, from(max(at, view+1)-1)) {
				t.Errorf("Hear of a certificate of view %d at View %d leaves %v", view, at, got.Table)
			}
			p := partOf(view, nameByWords(chainOf(view)), 2)
			if got, ok := impl.Hear(c, r, partMsg(p)); ok != (view >= at) || ok && !sameParts(got.Table, from(at-1)) || !ok && !sameParts(got.Table, table) {
				t.Errorf("Hear of a part of view %d at View %d = %v, leaves %v", view, at, ok, got.Table)
			}
			b := blockOf(nameByWords(chainOf(view)), impl.QcFirst())
			got, ok := impl.Hear(c, r, blockMsg(b))
			if want := from(max(at, view) - 1); !ok || !sameParts(got.Table, want) {
				t.Errorf("Hear of a block of view %d at View %d leaves %v, want %v", view, at, got.Table, want)
			}
		}
	}
	// What is over is not dropped ahead of what is added.
	r := impl.Rep{Id: 2, View: 10, Table: table}
	if got, ok := impl.Hear(c, r, partMsg(partOf(11, "/11|", 1))); ok || !sameRep(got, r) {
		t.Errorf("Hear of a part without room = %v", ok)
	}
}

// TestHearDropsWhatIsPaid: the Pool has nothing that is gone past by what is
// settled then.
func TestHearDropsWhatIsPaid(t *testing.T) {
	c := impl.Conf{N: 4, Fan: 2}
	pool := []impl.Tx{{From: 0}, {From: 0, Nonce: 1}, {From: 0, Nonce: 2}, {From: 1}, {From: 1, Nonce: 1}, {From: 2, Nonce: 1}, {From: 3}}
	chain := "/2|0>1:500#0,0>1:5#1/3|1>0:5#0/4|3>2:5#0"
	for _, k := range []struct {
		name string
		done string
		m    impl.Msg
		left []impl.Tx
	}{
		{"nothing settled", "", viewMsg(9, 0, impl.QcFirst()), pool},
		{"a payment, nothing settled", "", txMsg(impl.Tx{From: 2}), slices.Concat(pool[:5], []impl.Tx{{From: 2}}, pool[5:])},
		{"settled already", "/2|0>1:500#0,0>1:5#1", viewMsg(9, 0, impl.QcFirst()), pool[2:]},
		{"two steps settled already", "/2|0>1:500#0,0>1:5#1/3|1>0:5#0", viewMsg(9, 0, impl.QcFirst()), []impl.Tx{pool[2], pool[4], pool[5], pool[6]}},
		{"settled by the certificate", "", viewMsg(9, 0, enoughQc(c, chain)), pool[2:]},
		{"settled by the certificate of a block", "", blockMsg(blockOf(chain+"/5|", enoughQc(c, chain))), pool[2:]},
		{"certified alone", "", viewMsg(9, 0, enoughQc(c, "/2|0>1:500#0,0>1:5#1/4|3>2:5#0")), pool},
		{"a payment that is gone past", "/1|2>0:5#0", txMsg(impl.Tx{From: 2}), pool},
		{"settled by votes", "", partMsg(partOf(4, chain, 1, 2, 3)), pool[2:]},
		{"votes that settle nothing", "", partMsg(partOf(4, chain, 2, 3)), pool},
	} {
		r := impl.Rep{Id: 0, View: 2, Safe: safeOf(0, 0, impl.QcFirst(), k.done), Pool: pool}
		if got, ok := impl.Hear(c, r, k.m); !ok || !slices.Equal(got.Pool, k.left) {
			t.Errorf("%s: Hear leaves %v, %v, want %v", k.name, got.Pool, ok, k.left)
		}
		if k.m.Kind != kindTx {
			if got, ok := hearMsg(c, r, k.m); !ok || !slices.Equal(got.Pool, pool) {
				t.Errorf("%s: heard by its kind alone, it leaves %v, %v", k.name, got.Pool, ok)
			}
		}
		checkHear(t, c, r, k.m)
	}
	// What is false drops nothing, though all of it is over.
	r := impl.Rep{Id: 0, View: 9, Safe: safeOf(0, 0, impl.QcFirst(), "/2|0>1:500#0,0>1:5#1"), Pool: pool, Table: []impl.Part{partOf(1, "", 0), partOf(2, "/2|", 1)}}
	for _, m := range []impl.Msg{{}, txMsg(impl.Tx{From: 1}), txMsg(impl.Tx{From: 4}), partMsg(partOf(8, "/8|", 1)), partMsg(partOf(9, "", 1)), viewMsg(0, 0, impl.QcFirst()), blockMsg(blockOf("/9|", heardQc()))} {
		if got, ok := impl.Hear(c, r, m); ok || !sameRep(got, r) {
			t.Errorf("Hear of %v = %v, %v", m, got, ok)
		}
	}
}

// voting goes over rows of what one replica hears, and holds each step against
// promise 17.
type voting struct {
	t     *testing.T
	c     impl.Conf
	votes int
	again int
	falls int
}

// votingState has which block was voted for in which view, and what of that was
// told, once it was sure.
type votingState struct {
	rep  impl.Rep
	said map[int]string
	told map[int]string
	last impl.Block
}

func (v *voting) start(id int) votingState {
	r, _ := impl.RepNew(v.c, id)
	return votingState{rep: r, said: map[int]string{}, told: map[int]string{}, last: blockOf("/1|", impl.QcFirst())}
}

func (v *voting) goOn(s votingState, left int) {
	if left == 0 {
		return
	}
	for step := range votingSteps {
		v.goOn(v.step(s, step), left-1)
	}
}

const votingSteps = 14

func (v *voting) step(s votingState, step int) votingState {
	high, view, id := s.rep.Safe.High, s.rep.View, s.rep.Id
	on := func(q impl.Qc, view int, list ...impl.Tx) votingState {
		s.last = blockOf(q.Name+nameByWords([]impl.Step{{View: view, Txs: list}}), q)
		return v.hear(s, blockMsg(s.last))
	}
	others := setOfBits(1<<v.c.N - 1 - 1<<id)
	switch step {
	case 0:
		return on(high, view)
	case 1:
		return on(high, view, impl.Tx{To: 1, Amount: 5})
	case 2:
		return on(high, view+1)
	case 3:
		return on(high, view-1)
	case 4:
		return on(impl.QcFirst(), view, impl.Tx{From: 2})
	case 5:
		return on(enoughQc(v.c, s.last.Name), viewByWords(s.last.Name)+1)
	case 6:
		return v.hear(s, blockMsg(s.last))
	case 7:
		return v.hear(s, partMsg(partOf(viewByWords(s.last.Name), s.last.Name, others...)))
	case 8:
		return v.hear(s, partMsg(partOf(view, high.Name+nameByWords(chainOf(view)), others[:1]...)))
	case 9:
		return v.hear(s, viewMsg(min(view+1, 60), others[0], enoughQc(v.c, s.last.Name)))
	case 10:
		return v.sure(s)
	case 11, 12, 13:
		return v.fall(s, []int{0, 25, 1 << 20}[step-11])
	}
	return s
}

func (v *voting) hear(s votingState, m impl.Msg) votingState {
	v.t.Helper()
	was := s.rep
	got, ok := impl.Hear(v.c, was, m)
	if !ok {
		if !sameRep(got, was) {
			v.t.Fatalf("Hear of %v is false, and turned %v into %v", m, was, got)
		}
		return s
	}
	if !impl.RepOk(v.c, got) || !impl.Kept(v.c, got) {
		v.t.Fatalf("Hear of %v turned %v into %v, which is not kept", m, was, got)
	}
	if voted := got.Safe.Voted; voted != was.Safe.Voted {
		if m.Kind != kindBlock || viewByWords(m.Block.Name) != voted {
			v.t.Fatalf("voted in %d by %v", voted, m)
		}
		for view, name := range s.said {
			if view >= voted {
				v.t.Fatalf("voted in %d for %q, and has voted in %d for %q", voted, m.Block.Name, view, name)
			}
		}
		s.said = cloneVotes(s.said, 60)
		s.said[voted] = m.Block.Name
		v.votes++
	} else if m.Kind == kindBlock && viewByWords(m.Block.Name) == voted {
		v.again++
	}
	s.rep = got
	v.checkOwnVotes(s)
	return s
}

// checkOwnVotes holds each vote of its own, in what it will tell and in its table,
// against what it voted for.
func (v *voting) checkOwnVotes(s votingState) {
	v.t.Helper()
	parts := cloneParts(s.rep.Table)
	for _, p := range s.rep.Held {
		parts = append(parts, p.Msg.Part)
	}
	for _, p := range parts {
		if p.Name != "" && slices.Contains(p.Who, s.rep.Id) && s.said[p.View] != p.Name {
			v.t.Fatalf("it says %v, and voted for %q", p, s.said[p.View])
		}
	}
}

func (v *voting) sure(s votingState) votingState {
	v.t.Helper()
	after, list := impl.SureNow(v.c, s.rep)
	for _, p := range list {
		if part := p.Msg.Part; slices.Contains(part.Who, s.rep.Id) && s.said[part.View] != part.Name {
			v.t.Fatalf("it told %v, and voted for %q", part, s.said[part.View])
		}
	}
	s.rep, s.told = after, cloneVotes(s.said, 60)
	return s
}

// fall loses what was not sure: so much of it is forgotten, and was told to
// nobody.
func (v *voting) fall(s votingState, keep int) votingState {
	v.t.Helper()
	fell := cloneRep(s.rep)
	fell.Disk = impl.FallTo(fell.Disk, keep)
	risen := impl.Rise(v.c, fell)
	for view, name := range s.told {
		if risen.Safe.Voted < view {
			v.t.Fatalf("told its vote for %q, and rose to %v", name, risen.Safe)
		}
	}
	if risen.Safe.Voted > s.rep.Safe.Voted || keep > 1000 && risen.Safe.Voted != s.rep.Safe.Voted {
		v.t.Fatalf("voted in %d, and rose to %v", s.rep.Safe.Voted, risen.Safe)
	}
	s.rep, s.said = risen, cloneVotes(s.said, risen.Safe.Voted)
	v.falls++
	return s
}

func cloneVotes(votes map[int]string, most int) map[int]string {
	out := map[int]string{}
	for view, name := range votes {
		if view <= most {
			out[view] = name
		}
	}
	return out
}

// TestItVotesInNoViewTwice goes over all short rows, and over some long ones.
func TestItVotesInNoViewTwice(t *testing.T) {
	for _, c := range []impl.Conf{{N: 4, Fan: 2}, {N: 5, Fan: 1}} {
		for id := range c.N {
			v := voting{t: t, c: c}
			v.goOn(v.start(id), 4)
			if v.votes < 1000 || v.again < 1000 || v.falls < 1000 {
				t.Errorf("%v: %d voted %d times, was asked again %d times, and fell %d times", c, id, v.votes, v.again, v.falls)
			}
		}
	}
	seed := uint32(1)
	for row := range 400 {
		c := rightConfs()[row%24]
		v := voting{t: t, c: c}
		s := v.start(row % c.N)
		for range 60 {
			seed = seed*1664525 + 1013904223
			s = v.step(s, int(seed>>16)%votingSteps)
		}
		if v.votes == 0 || v.falls == 0 {
			t.Errorf("row %d has %d votes and %d falls", row, v.votes, v.falls)
		}
	}
}

// TestWhatIsHeardIsKept hears all of each kind, by its function and by Hear: who
// was kept is kept then, and holds to no less.
func TestWhatIsHeardIsKept(t *testing.T) {
	c := impl.Conf{N: 4, Fan: 2}
	for _, r := range hearers() {
		kept := impl.Kept(c, r)
		for _, m := range allMsgs(c) {
			if !msgOkByWords(c, m) {
				continue
			}
			one, ok := hearMsg(c, r, m)
			all, okAll := impl.Hear(c, r, m)
			if ok != okAll || kept && !(impl.Kept(c, one) && impl.Kept(c, all)) {
				t.Fatalf("%v heard %v: %v, %v", r, m, one, all)
			}
			if !sameSafe(one.Safe, all.Safe) || kept && !sameSafe(impl.Rise(c, one).Safe, one.Safe) {
				t.Fatalf("%v heard %v: it holds to %v, or %v, and risen to %v", r, m, one.Safe, all.Safe, impl.Rise(c, one).Safe)
			}
		}
	}
}

// heardMsgs has messages by which much of a replica of four is turned, and such
// as turn nothing.
func heardMsgs() []impl.Msg {
	return append(fewMsgs(),
		blockMsg(heardBlock()), blockMsg(blockOf("/9|", impl.QcFirst())), blockMsg(blockOf("/9|", heardQc())),
		partMsg(partOf(5, heardName, 0, 2, 3)), partMsg(partOf(5, fiveName, 0, 2)), partMsg(partOf(9, "/9|", 0, 1, 2, 3)), partMsg(partOf(9, "", 1)),
		viewMsg(9, 3, qcOf(6, "/2|/3|/6|", 1, 2, 3)), viewMsg(10, 0, impl.QcFirst()), viewMsg(10, 0, qcOf(6, "/6|", 1, 2)),
		txMsg(impl.Tx{From: 2, Nonce: 5}), impl.Msg{Kind: 5},
	)
}

func TestHearsAreNewMemory(t *testing.T) {
	c := impl.Conf{N: 4, Fan: 2}
	var reps []impl.Rep
	for _, r := range slices.Concat(rightReps(), wrongReps()[:60], climbingReps(), hearers(), []impl.Rep{lateRep(0, 2), joinedTo(hearingRep(1), partOf(5, heardName, 0, 2))}) {
		if len(r.Disk.Bytes) < 1000 && len(r.Held) < 20 {
			reps = append(reps, r)
		}
	}
	for _, r := range reps {
		for _, m := range heardMsgs() {
			given, whole := msgWithRoom(m)
			before := cloneLists(whole)
			checkRepMemory(t, "Hear by its kind", r, func(r impl.Rep) impl.Rep {
				got, _ := hearMsg(c, r, given)
				return got
			})
			checkRepMemory(t, "Hear", r, func(r impl.Rep) impl.Rep {
				got, _ := impl.Hear(c, r, given)
				return got
			})
			if !slices.EqualFunc(whole, before, slices.Equal) {
				t.Fatalf("%v was written into, or shares memory with what heard it", m)
			}
		}
	}
}

// TestWhatIsHeardIsNotShared turns what was heard behind the call.
func TestWhatIsHeardIsNotShared(t *testing.T) {
	c := impl.Conf{N: 4, Fan: 2}
	for _, r := range []impl.Rep{hearingRep(1), hearingRep(2), lateRep(0, 2)} {
		for _, m := range heardMsgs() {
			given := cloneMsg(m)
			one, _ := hearMsg(c, r, given)
			all, _ := impl.Hear(c, r, given)
			wantOne, wantAll := cloneRep(one), cloneRep(all)
			spoilMsg(given)
			if !sameRep(one, wantOne) || !sameRep(all, wantAll) {
				t.Fatalf("what heard %v turns with it", m)
			}
		}
	}
}

// TestHearsOfOneList hands in one list of numbers at many places: each answer has
// a list of its own at each.
func TestHearsOfOneList(t *testing.T) {
	c := impl.Conf{N: 4, Fan: 2}
	who := []int{0, 1, 2}
	q := impl.Qc{View: 4, Name: "/4|", Who: who}
	r := impl.Rep{Id: 1, View: 5, Safe: impl.Safe{High: q}, Table: []impl.Part{{View: 5, Who: who}, {View: 5, Name: "/4|/5|", Who: who}, {View: 9, Who: who}}}
	r.Held = []impl.Post{{To: 3, Msg: impl.Msg{Kind: kindView, View: 5, Qc: q}}, {To: 2, Msg: impl.Msg{Kind: kindBlock, Block: impl.Block{Name: "/4|/5|", Qc: q}}}}
	leaf := r
	leaf.Id, leaf.Held = 3, nil
	for _, r := range []impl.Rep{r, leaf} {
		for _, m := range []impl.Msg{
			{Kind: kindBlock, Block: impl.Block{Name: "/4|/5|", Qc: q}}, {Kind: kindBlock, Block: impl.Block{Name: "/4|/6|", Qc: q}},
			{Kind: kindPart, Part: impl.Part{View: 5, Name: "/4|/5|", Who: who}}, {Kind: kindPart, Part: impl.Part{View: 6, Name: "/4|/6|", Who: who}},
			{Kind: kindView, View: 9, Qc: q, Who: 3}, {Kind: kindView, View: 13, Qc: impl.Qc{View: 6, Name: "/4|/6|", Who: who}}, {Kind: kindTx},
			{Kind: kindView, View: 9, Qc: q, Who: 4}, {Kind: kindPart, Part: impl.Part{View: 4, Name: "/4|", Who: who}}, {},
		} {
			one, ok := hearMsg(c, r, m)
			all, okAll := impl.Hear(c, r, m)
			if ok != (m.Who != 4 && m.Part.View != 4 && m.Kind > 0) && m.Kind > 0 || okAll && !ok {
				t.Fatalf("Hear of %v = %v, %v", m, ok, okAll)
			}
			checkOwnIntLists(t, "Hear by its kind", one)
			checkOwnIntLists(t, "Hear", all)
		}
	}
	if !slices.Equal(who, []int{0, 1, 2}) {
		t.Errorf("what all share was written into: %v", who)
	}
}

// TestHearsDoNotReadBehindTheirLists has what would turn the answer in the spare
// room.
func TestHearsDoNotReadBehindTheirLists(t *testing.T) {
	c := impl.Conf{N: 4, Fan: 2}
	who := []int{0, 2, 3, 1}
	got, ok := impl.HearPart(c, hearingRep(1), impl.Part{View: 5, Name: heardName, Who: who[:2]})
	if !ok || got.View != 5 || !sameRep(got, joinedTo(hearingRep(1), partOf(5, heardName, 0, 2))) {
		t.Error("what stands behind Who is joined")
	}
	q := heardQc()
	q.Who = []int{0, 1, 2, 3}[:2]
	r := hearingRep(3)
	if got, ok := impl.HearBlock(c, r, impl.Block{Name: heardName, Qc: q}); ok || !sameRep(got, r) {
		t.Error("what stands behind Who certifies")
	}
	if got, ok := impl.HearView(c, r, 9, q, 2); ok || !sameRep(got, r) {
		t.Error("what stands behind Who certifies a view")
	}
	r = impl.Rep{Id: 1, View: 5, Table: []impl.Part{partOf(5, heardName, 0), partOf(5, heardName, 0, 2, 3)}[:1]}
	if got, ok := impl.HearPart(c, r, partOf(5, heardName, 3)); !ok || got.View != 5 || len(got.Table) != 1 {
		t.Error("what stands behind the table is joined")
	}
	r = impl.Rep{Id: 1, View: 5, Table: fullTable()[:19]}
	if got, ok := impl.HearView(c, r, 17, impl.QcFirst(), 3); !ok || len(got.Table) != 20 || !sameParts(r.Table[:20], fullTable()) {
		t.Error("what stands behind the table is written over, or counts")
	}
	r = impl.Rep{Id: 1, View: 5, Pool: fullPool()[:11]}
	if got, ok := impl.HearTx(c, r, impl.Tx{From: 3, Nonce: 60}); !ok || len(got.Pool) != 12 || !slices.Equal(r.Pool[:12], fullPool()) {
		t.Error("what stands behind the pool is written over, or counts")
	}
}

// TestHearsKeepNothing asks the same again once others were asked, and many at
// once.
func TestHearsKeepNothing(t *testing.T) {
	c := impl.Conf{N: 4, Fan: 2}
	for range 3 {
		for _, r := range append(wrongReps()[:8], hearers()...) {
			for _, m := range heardMsgs() {
				checkHear(t, c, r, m)
				checkHear(t, impl.Conf{N: 7, Fan: 3}, r, m)
				checkHear(t, impl.Conf{}, r, m)
			}
		}
	}
	r := joinedTo(hearingRep(1), partOf(5, heardName, 0, 2))
	msgs := heardMsgs()
	want, wantOk := make([]impl.Rep, len(msgs)), make([]bool, len(msgs))
	for i, m := range msgs {
		want[i], wantOk[i] = hearByWords(c, r, m)
	}
	var all sync.WaitGroup
	right := make([]bool, 160)
	for i := range right {
		all.Go(func() {
			at := i % len(msgs)
			got, ok := impl.Hear(c, r, msgs[at])
			right[i] = ok == wantOk[at] && sameRep(got, want[at])
		})
	}
	all.Wait()
	if i := slices.Index(right, false); i >= 0 {
		t.Errorf("asked at once, number %d is answered otherwise", i)
	}
}

// TestGreatHears has far more of each than is right, and the greatest Confs.
func TestGreatHears(t *testing.T) {
	c := impl.Conf{N: 4, Fan: 2}
	who, name := viewsFrom(0, 50000), strings.Repeat("/1|", 50000)
	great := qcOf(1, name, who...)
	msgs := []impl.Msg{
		blockMsg(blockOf(name+"/2|", great)), blockMsg(blockOf("/60|", great)), partMsg(partOf(1, name, who...)), partMsg(partOf(1, "/1|", who...)),
		viewMsg(1, 1, great), txMsg(impl.Tx{Amount: math.MaxInt}),
	}
	refused := func(c impl.Conf, r impl.Rep, m impl.Msg) {
		t.Helper()
		one, ok := hearMsg(c, r, m)
		all, okAll := impl.Hear(c, r, m)
		if ok || okAll || !sameRep(one, r) || !sameRep(all, r) {
			t.Error("heard")
		}
	}
	for _, m := range msgs {
		refused(c, keptRep(0), m)
		refused(c, hearingRep(2), m)
	}
	for i, turn := range []func(*impl.Rep){
		func(r *impl.Rep) { r.Safe.High = great },
		func(r *impl.Rep) { r.Safe.Done = name },
		func(r *impl.Rep) { r.Pool = make([]impl.Tx, 50000) },
		func(r *impl.Rep) { r.Table = make([]impl.Part, 50000) },
		func(r *impl.Rep) { r.Table = []impl.Part{partOf(9, "/9|", who...)} },
		func(r *impl.Rep) { r.Disk.Bytes = make([]byte, 1<<20) },
		func(r *impl.Rep) { r.Held = heldTimes(50000, postOf(1, txMsg(impl.Tx{}))) },
		func(r *impl.Rep) { r.Held = []impl.Post{postOf(1, viewMsg(1, 1, great))} },
	} {
		r := hearingRep(2)
		turn(&r)
		for _, m := range fewMsgs()[i%2:] {
			refused(c, r, m)
		}
	}
	for _, c := range []impl.Conf{{N: math.MaxInt, Fan: 2}, {N: math.MaxInt, Fan: math.MaxInt}, {N: math.MinInt, Fan: 1}} {
		for _, m := range fewMsgs() {
			refused(c, keptRep(0), m)
			refused(c, impl.Rep{}, m)
		}
	}
}
