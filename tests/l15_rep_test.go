package tests

import (
	"math"
	"slices"
	"strings"
	"sync"
	"testing"

	"loop.example/g00448/impl"
)

const mostHeld = 30

func postOf(to int, m impl.Msg) impl.Post { return impl.Post{To: to, Msg: m} }

func clonePosts(list []impl.Post) []impl.Post {
	var out []impl.Post
	for _, p := range list {
		out = append(out, postOf(p.To, cloneMsg(p.Msg)))
	}
	return out
}

func samePosts(a, b []impl.Post) bool {
	return slices.EqualFunc(a, b, func(x, y impl.Post) bool { return x.To == y.To && sameMsg(x.Msg, y.Msg) })
}

func cloneRep(r impl.Rep) impl.Rep {
	r.Safe, r.Pool, r.Table, r.Disk, r.Held = cloneSafe(r.Safe), slices.Clone(r.Pool), cloneParts(r.Table), cloneDisk(r.Disk), clonePosts(r.Held)
	return r
}

func sameRep(a, b impl.Rep) bool {
	return a.Id == b.Id && a.View == b.View && a.Asked == b.Asked && sameSafe(a.Safe, b.Safe) && slices.Equal(a.Pool, b.Pool) &&
		sameParts(a.Table, b.Table) && sameDisk(a.Disk, b.Disk) && samePosts(a.Held, b.Held)
}

// repOkByWords and those behind it are a second reading of what the document
// says.
func repOkByWords(c impl.Conf, r impl.Rep) bool {
	if !confOkByWords(c) || r.Id < 0 || r.Id >= c.N || r.View < 1 || r.View > 60 || r.Asked < 0 || r.Asked > 60 {
		return false
	}
	for i, p := range r.Held {
		if i >= mostHeld || p.To < 0 || p.To >= c.N || p.To == r.Id || !msgOkByWords(c, p.Msg) {
			return false
		}
	}
	return safeOkByWords(c, r.Safe) && poolOkByWords(r.Pool) && tableOkByWords(c, r.Table) && diskOkByWords(r.Disk)
}

func repNewByWords(c impl.Conf, id int) (impl.Rep, bool) {
	r := impl.Rep{Id: id, View: 1}
	if !repOkByWords(c, r) {
		return impl.Rep{}, false
	}
	return r, true
}

func keptByWords(c impl.Conf, r impl.Rep) bool {
	last, used := lastNoteByWords(c, r.Disk.Bytes)
	return repOkByWords(c, r) && sameSafe(last, r.Safe) && used == len(r.Disk.Bytes)
}

func riseByWords(c impl.Conf, r impl.Rep) impl.Rep {
	if !repOkByWords(c, r) {
		return r
	}
	last, used := lastNoteByWords(c, r.Disk.Bytes)
	risen := impl.Rep{Id: r.Id, View: 1, Safe: last, Disk: diskOf(string(r.Disk.Bytes[:used]), used)}
	for _, view := range []int{last.Voted, last.High.View + 1} {
		if view > risen.View && view <= 60 {
			risen.View = view
		}
	}
	if last.High.View == 60 {
		risen.View = 60
	}
	return risen
}

func stateByWords(c impl.Conf, r impl.Rep) impl.Ledger {
	if !repOkByWords(c, r) {
		return impl.Ledger{}
	}
	l := ledgerOf([]int{100, 100, 100, 100}, []int{0, 0, 0, 0})
	steps, _ := stepsByWords(r.Safe.Done)
	for _, step := range steps {
		for _, x := range step.Txs {
			l, _ = payByWords(l, x)
		}
	}
	return l
}

func writeByWords(c impl.Conf, r impl.Rep, s impl.Safe) (impl.Rep, bool) {
	if !repOkByWords(c, r) {
		return r, false
	}
	if sameSafe(r.Safe, s) {
		return r, true
	}
	after := r
	after.Safe, after.Disk = s, diskOf(string(r.Disk.Bytes)+string(noteWritten(s)), r.Disk.Sure)
	if !repOkByWords(c, after) {
		return r, false
	}
	return after, true
}

// busyRep has something in each field: replica 2 of four, on whose disk one note
// is sure, one is not, and one is torn.
func busyRep() impl.Rep {
	sure, unsure := noteWritten(fewSafes()[0]), noteWritten(busySafe())
	torn := noteWritten(fewSafes()[4])[:5]
	return impl.Rep{
		Id: 2, View: 7, Asked: 5, Safe: busySafe(),
		Pool:  []impl.Tx{{From: 0, To: 1, Amount: 5, Nonce: 1}, {From: 3, To: 2, Amount: 7}},
		Table: []impl.Part{partOf(6, "", 1), partOf(6, "/2|/6|", 0, 3), partOf(7, "", 0, 2)},
		Disk:  diskOf(string(sure)+string(unsure)+string(torn), len(sure)),
		Held:  busyPosts(),
	}
}

func busySafe() impl.Safe { return safeOf(6, 2, qcOf(4, "/2|0>1:60#0/3|/4|", 0, 1, 3), "/2|0>1:60#0") }

// busyPosts has two of each kind, to each other one than 2.
func busyPosts() []impl.Post {
	var out []impl.Post
	for i, m := range fewMsgs() {
		out = append(out, postOf([]int{0, 1, 3}[i%3], m))
	}
	return out
}

// keptRep wrote these, one behind the other, and holds to the last one.
func keptRep(id int, list ...impl.Safe) impl.Rep {
	r := impl.Rep{Id: id, View: 1, Disk: diskOf(string(notesWritten(list...)), 0)}
	if len(list) > 0 {
		r.Safe = list[len(list)-1]
	}
	return r
}

// repDisks has disks with whole notes, with torn ones, with others behind them,
// and with none.
func repDisks() []impl.Disk {
	one, two := noteWritten(fewSafes()[0]), noteWritten(busySafe())
	texts := []string{"", "x", "\x06", "\n", "\x00\n", string(one), string(one) + string(one), string(one) + string(two), string(two) + string(one), string(noteWritten(impl.SafeNew())), manyBytes(300)}
	for _, ahead := range []string{"", string(one)} {
		for _, cut := range []int{1, 2, len(two) / 2, len(two) - 1} {
			texts = append(texts, ahead+string(two[:cut]))
		}
		texts = append(texts, ahead+"x", ahead+"\x00", ahead+"\n", ahead+string(two[1:]), ahead+"x"+string(two), ahead+string(noteWritten(wrongSafes()[0]))+string(two))
	}
	var out []impl.Disk
	for _, text := range texts {
		out = append(out, diskOf(text, 0), diskOf(text, len(text)/2), diskOf(text, len(text)))
	}
	return out
}

func heldTimes(many int, list ...impl.Post) []impl.Post {
	var out []impl.Post
	for i := range many {
		out = append(out, list[i%len(list)])
	}
	return out
}

// rightReps has replicas of four: each field at its limits, alone and all
// together.
func rightReps() []impl.Rep {
	c := impl.Conf{N: 4, Fan: 2}
	var out []impl.Rep
	for id := range 4 {
		out = append(out, keptRep(id), keptRep(id, fewSafes()[0]))
	}
	out = append(out, busyRep())
	for _, turn := range []func(*impl.Rep){
		func(r *impl.Rep) { r.Id = 0; r.Held = nil },
		func(r *impl.Rep) { r.Id = 3; r.Held = r.Held[:2] },
		func(r *impl.Rep) { r.View, r.Asked = 1, 0 },
		func(r *impl.Rep) { r.View, r.Asked = 1, 60 },
		func(r *impl.Rep) { r.View, r.Asked = 60, 0 },
		func(r *impl.Rep) { r.View, r.Asked = 60, 60 },
		func(r *impl.Rep) { r.Pool = fullPool() },
		func(r *impl.Rep) { r.Table = fullTable() },
		func(r *impl.Rep) { r.Disk = diskOf(manyBytes(mostOnDisk), 5) },
		func(r *impl.Rep) { r.Held = heldTimes(mostHeld, busyPosts()...) },
		func(r *impl.Rep) { r.Held = heldTimes(mostHeld, busyPosts()[0]) },
		func(r *impl.Rep) {
			r.Pool, r.Table, r.Disk.Bytes, r.Disk.Sure, r.Held = []impl.Tx{}, []impl.Part{}, []byte{}, 0, []impl.Post{}
		},
		func(r *impl.Rep) {
			r.Pool, r.Table, r.Held, r.Safe = fullPool(), fullTable(), heldTimes(mostHeld, busyPosts()...), fewSafes()[6]
			r.Disk = diskOf(string(notesWritten(slices.Repeat(fewSafes(), 3)...)), 9)
		},
	} {
		r := busyRep()
		turn(&r)
		out = append(out, r)
	}
	for _, d := range repDisks() {
		r := busyRep()
		r.Disk = d
		out = append(out, r)
	}
	for _, s := range rightSafes(c) {
		r := busyRep()
		r.Safe = s
		out = append(out, r, keptRep(1, s))
	}
	return out
}

// wrongReps has, of the busy one, each field wrong alone.
func wrongReps() []impl.Rep {
	var out []impl.Rep
	turned := func(turn func(*impl.Rep)) {
		r := busyRep()
		turn(&r)
		out = append(out, r)
	}
	for _, n := range []int{-1, -2, -60, 61, 62, 1 << 32, 1<<32 + 2, -1 << 32, math.MinInt, math.MinInt + 2, math.MaxInt} {
		turned(func(r *impl.Rep) { r.Id = n })
		turned(func(r *impl.Rep) { r.View = n })
		turned(func(r *impl.Rep) { r.Asked = n })
		turned(func(r *impl.Rep) { r.Held[0].To = n })
	}
	turned(func(r *impl.Rep) { r.Id = 4 })
	turned(func(r *impl.Rep) { r.View = 0 })
	for _, s := range wrongSafes() {
		turned(func(r *impl.Rep) { r.Safe = s })
	}
	for _, p := range wrongPools()[:40] {
		turned(func(r *impl.Rep) { r.Pool = p })
	}
	for _, list := range wrongTables()[:40] {
		turned(func(r *impl.Rep) { r.Table = list })
	}
	for _, d := range wrongDisks() {
		turned(func(r *impl.Rep) { r.Disk = d })
	}
	for _, list := range wrongHeld() {
		turned(func(r *impl.Rep) { r.Held = list })
	}
	return out
}

// wrongHeld has lists that replica 2 of four may not hold.
func wrongHeld() [][]impl.Post {
	right := busyPosts()
	out := [][]impl.Post{
		heldTimes(mostHeld+1, right...), heldTimes(mostHeld+1, right[0]), heldTimes(mostHeld+2, right...), heldTimes(1000, right...),
		{{}}, {{To: 1}}, {{To: 2}},
	}
	for _, m := range fewMsgs() {
		for _, to := range []int{2, -1, 4, 5, 1<<32 + 1} {
			out = append(out, []impl.Post{postOf(to, m)})
		}
	}
	for _, m := range []impl.Msg{{}, {Kind: 5}, blockMsg(blockOf("", impl.QcFirst())), partMsg(partOf(3, "", 1)), viewMsg(0, 1, impl.QcFirst()), viewMsg(3, 4, impl.QcFirst()), txMsg(impl.Tx{From: 4})} {
		wrong := []impl.Post{postOf(1, m)}
		out = append(out, wrong, slices.Concat(wrong, right), slices.Concat(right, wrong), slices.Concat(right[:3], wrong, right[3:]))
	}
	for _, to := range []int{2, -1, 4} {
		wrong := []impl.Post{postOf(to, right[6].Msg)}
		out = append(out, slices.Concat(wrong, right), slices.Concat(right, wrong), slices.Concat(right[:3], wrong, right[3:]))
	}
	last := heldTimes(mostHeld, right...)
	last[mostHeld-1].To = 2
	return append(out, last)
}

func allReps() []impl.Rep { return append(rightReps(), wrongReps()...) }

func TestMaxHeld(t *testing.T) {
	if impl.MaxHeld != mostHeld {
		t.Error(impl.MaxHeld)
	}
}

func TestRepOk(t *testing.T) {
	c := impl.Conf{N: 4, Fan: 2}
	for i, r := range rightReps() {
		if !impl.RepOk(c, r) || !repOkByWords(c, r) {
			t.Errorf("RepOk of right one %d is %v, the second reading %v: %v", i, impl.RepOk(c, r), repOkByWords(c, r), r)
		}
	}
	for i, r := range wrongReps() {
		if impl.RepOk(c, r) || repOkByWords(c, r) {
			t.Errorf("RepOk of wrong one %d is %v, the second reading %v: Id %d View %d Asked %d Safe %v Held %v", i, impl.RepOk(c, r), repOkByWords(c, r), r.Id, r.View, r.Asked, r.Safe, r.Held)
		}
	}
	if impl.RepOk(c, impl.Rep{}) || impl.RepOk(impl.Conf{}, impl.Rep{}) || !impl.RepOk(c, impl.Rep{View: 1}) {
		t.Error("zero")
	}
}

func TestRepOkAtEachNumber(t *testing.T) {
	for _, c := range []impl.Conf{{N: 4, Fan: 2}, {N: 5, Fan: 1}, {N: 7, Fan: 6}} {
		for n := -70; n <= 130; n++ {
			if got := impl.RepOk(c, impl.Rep{Id: n, View: 1}); got != (n >= 0 && n < c.N) {
				t.Errorf("%v: RepOk with Id %d = %v", c, n, got)
			}
			if got := impl.RepOk(c, impl.Rep{View: n}); got != (n >= 1 && n <= 60) {
				t.Errorf("%v: RepOk with View %d = %v", c, n, got)
			}
			if got := impl.RepOk(c, impl.Rep{View: 1, Asked: n}); got != (n >= 0 && n <= 60) {
				t.Errorf("%v: RepOk with Asked %d = %v", c, n, got)
			}
		}
	}
}

func TestRepOkAtEachConf(t *testing.T) {
	for _, c := range allConfs() {
		for id := -1; id <= 8; id++ {
			r := impl.Rep{Id: id, View: 1}
			if got := impl.RepOk(c, r); got != repOkByWords(c, r) {
				t.Fatalf("RepOk(%v, %v) = %v", c, r, got)
			}
		}
		r := busyRep()
		if got := impl.RepOk(c, r); got != repOkByWords(c, r) {
			t.Fatalf("RepOk(%v) of the busy one = %v", c, got)
		}
	}
}

// TestRepOkOfWhatIsHeld has each two of who holds and to whom, and each kind of
// message, right and wrong, first and last.
func TestRepOkOfWhatIsHeld(t *testing.T) {
	for _, c := range []impl.Conf{{N: 4, Fan: 2}, {N: 7, Fan: 6}} {
		for id := range c.N {
			for to := -2; to <= 9; to++ {
				want := to >= 0 && to < c.N && to != id
				r := impl.Rep{Id: id, View: 1, Held: []impl.Post{postOf(to, txMsg(impl.Tx{}))}}
				if got := impl.RepOk(c, r); got != want {
					t.Errorf("%v: RepOk of %d that holds a message to %d = %v", c, id, to, got)
				}
			}
		}
	}
	c := impl.Conf{N: 4, Fan: 2}
	right := postOf(0, fewMsgs()[0])
	for _, m := range allMsgs(c) {
		want := msgOkByWords(c, m)
		for _, list := range [][]impl.Post{{postOf(3, m)}, {postOf(3, m), right}, {right, right, postOf(3, m)}, {postOf(3, m), postOf(3, m)}} {
			if got := impl.RepOk(c, impl.Rep{Id: 2, View: 1, Held: list}); got != want {
				t.Fatalf("RepOk that holds %v = %v", list, got)
			}
		}
	}
	for many := range mostHeld + 4 {
		r := impl.Rep{Id: 2, View: 1, Held: heldTimes(many, busyPosts()...)}
		if got := impl.RepOk(c, r); got != (many <= mostHeld) {
			t.Errorf("RepOk that holds %d = %v", many, got)
		}
	}
}

// TestRepOkOfEachPart has each of Safe, Pool, Table and Disk right and wrong.
func TestRepOkOfEachPart(t *testing.T) {
	c := impl.Conf{N: 4, Fan: 2}
	check := func(what string, r impl.Rep, want bool) {
		t.Helper()
		if got := impl.RepOk(c, r); got != want {
			t.Fatalf("%s: RepOk = %v", what, got)
		}
	}
	for _, s := range allSafes(c) {
		check("Safe", impl.Rep{View: 1, Safe: s}, safeOkByWords(c, s))
	}
	for _, p := range allPools() {
		check("Pool", impl.Rep{View: 1, Pool: p}, poolOkByWords(p))
	}
	for _, list := range allTables() {
		check("Table", impl.Rep{View: 1, Table: list}, tableOkByWords(c, list))
	}
	for _, d := range slices.Concat(shortDisks(), greatDisks(), wrongDisks()) {
		check("Disk", impl.Rep{View: 1, Disk: d}, diskOkByWords(d))
	}
}

func TestRepNew(t *testing.T) {
	for _, c := range allConfs() {
		for _, id := range []int{0, 1, 2, 3, 4, 5, 6, 7, 8, -1, -4, 1 << 32, 1<<32 + 1, math.MinInt, math.MaxInt} {
			r, ok := impl.RepNew(c, id)
			want, wantOk := repNewByWords(c, id)
			if ok != wantOk || !sameRep(r, want) {
				t.Fatalf("RepNew(%v, %d) = %v, %v", c, id, r, ok)
			}
			if ok && (!impl.RepOk(c, r) || !impl.Kept(c, r) || !sameRep(impl.Rise(c, r), r)) {
				t.Fatalf("RepNew(%v, %d) is not right, kept, or as it rises", c, id)
			}
		}
	}
	c := impl.Conf{N: 4, Fan: 2}
	r, ok := impl.RepNew(c, 3)
	empty := len(r.Pool) == 0 && len(r.Table) == 0 && len(r.Disk.Bytes) == 0 && r.Disk.Sure == 0 && len(r.Held) == 0
	if !ok || r.Id != 3 || r.View != 1 || r.Asked != 0 || !sameSafe(r.Safe, impl.SafeNew()) || !empty {
		t.Error(r, ok)
	}
}

func TestKept(t *testing.T) {
	c := impl.Conf{N: 4, Fan: 2}
	one, two := fewSafes()[0], busySafe()
	turned := func(turn func(*impl.Rep)) impl.Rep {
		r := keptRep(2, one, two)
		turn(&r)
		return r
	}
	cases := []struct {
		name string
		r    impl.Rep
		want bool
	}{
		{"a new one", keptRep(2), true},
		{"one that wrote once", keptRep(2, one), true},
		{"one that wrote twice", keptRep(2, one, two), true},
		{"one that wrote back", keptRep(2, two, one), true},
		{"one that wrote SafeNew", keptRep(2, impl.SafeNew()), true},
		{"one that wrote SafeNew last", keptRep(2, two, impl.SafeNew()), true},
		{"all sure", turned(func(r *impl.Rep) { r.Disk.Sure = len(r.Disk.Bytes) }), true},
		{"some sure", turned(func(r *impl.Rep) { r.Disk.Sure = 3 }), true},
		{"busy beside it", turned(func(r *impl.Rep) {
			b := busyRep()
			r.View, r.Asked, r.Pool, r.Table, r.Held = b.View, b.Asked, b.Pool, b.Table, b.Held
		}), true},
		{"nothing written, an empty list", impl.Rep{View: 1, Disk: impl.Disk{Bytes: []byte{}}, Safe: impl.Safe{High: impl.Qc{Who: []int{}}}}, true},

		{"nothing written, something held to", impl.Rep{Id: 2, View: 1, Safe: one}, false},
		{"something written, nothing held to", turned(func(r *impl.Rep) { r.Safe = impl.SafeNew() }), false},
		{"what it wrote first", turned(func(r *impl.Rep) { r.Safe = one }), false},
		{"another Voted", turned(func(r *impl.Rep) { r.Safe.Voted++ }), false},
		{"another Voted, below", turned(func(r *impl.Rep) { r.Safe.Voted-- }), false},
		{"another Lock", turned(func(r *impl.Rep) { r.Safe.Lock++ }), false},
		{"another High", turned(func(r *impl.Rep) { r.Safe.High = qcOf(4, "/2|/4|", 0, 1, 3) }), false},
		{"High of others", turned(func(r *impl.Rep) { r.Safe.High.Who = []int{0, 1, 2} }), false},
		{"High of one more", turned(func(r *impl.Rep) { r.Safe.High.Who = []int{0, 1, 2, 3} }), false},
		{"another Done", turned(func(r *impl.Rep) { r.Safe.Done = "/2|" }), false},
		{"no Done", turned(func(r *impl.Rep) { r.Safe.Done = "" }), false},
		{"a torn end", turned(func(r *impl.Rep) { r.Disk.Bytes = r.Disk.Bytes[:len(r.Disk.Bytes)-1] }), false},
		{"a torn end, held to what is there", turned(func(r *impl.Rep) { r.Disk.Bytes = r.Disk.Bytes[:len(r.Disk.Bytes)-1]; r.Safe = one }), false},
		{"one byte behind", turned(func(r *impl.Rep) { r.Disk.Bytes = append(r.Disk.Bytes, 'x') }), false},
		{"a nought behind", turned(func(r *impl.Rep) { r.Disk.Bytes = append(r.Disk.Bytes, 0) }), false},
		{"a line's end behind", turned(func(r *impl.Rep) { r.Disk.Bytes = append(r.Disk.Bytes, 10) }), false},
		{"bytes ahead", turned(func(r *impl.Rep) { r.Disk.Bytes = append([]byte("x"), r.Disk.Bytes...) }), false},
		{"no note, nothing held to", impl.Rep{View: 1, Disk: diskOf("x", 0)}, false},
		{"a note of what is not SafeOk behind", turned(func(r *impl.Rep) {
			r.Disk.Bytes = append(r.Disk.Bytes, noteWritten(safeOf(61, 0, impl.QcFirst(), ""))...)
		}), false},

		{"not RepOk: zero", impl.Rep{}, false},
		{"not RepOk: Id", turned(func(r *impl.Rep) { r.Id = 4 }), false},
		{"not RepOk: View", turned(func(r *impl.Rep) { r.View = 0 }), false},
		{"not RepOk: Asked", turned(func(r *impl.Rep) { r.Asked = 61 }), false},
		{"not RepOk: Pool", turned(func(r *impl.Rep) { r.Pool = []impl.Tx{{From: 4}} }), false},
		{"not RepOk: Table", turned(func(r *impl.Rep) { r.Table = []impl.Part{{}} }), false},
		{"not RepOk: Sure", turned(func(r *impl.Rep) { r.Disk.Sure = len(r.Disk.Bytes) + 1 }), false},
		{"not RepOk: Held", turned(func(r *impl.Rep) { r.Held = []impl.Post{postOf(2, txMsg(impl.Tx{}))} }), false},
	}
	for _, k := range cases {
		if got := impl.Kept(c, k.r); got != k.want {
			t.Errorf("%s: Kept = %v", k.name, got)
		}
		if got := keptByWords(c, k.r); got != k.want {
			t.Errorf("%s: the second reading is %v", k.name, got)
		}
	}
	for _, c := range allConfs() {
		for _, r := range []impl.Rep{keptRep(2), keptRep(2, one)} {
			if got := impl.Kept(c, r); got != keptByWords(c, r) {
				t.Fatalf("Kept(%v, %v) = %v", c, r, got)
			}
		}
	}
}

// TestKeptOfEachTwo holds to one Safe and has the note of another.
func TestKeptOfEachTwo(t *testing.T) {
	c := impl.Conf{N: 4, Fan: 2}
	some := slices.Concat(fewSafes(), rightSafes(c)[:60])
	for i, wrote := range some {
		for j, holds := range some {
			r := keptRep(1, some[0], wrote)
			r.Safe = holds
			if got := impl.Kept(c, r); got != sameSafe(wrote, holds) {
				t.Fatalf("Kept of one that wrote %d and holds to %d = %v", i, j, got)
			}
		}
	}
}

func TestRise(t *testing.T) {
	c := impl.Conf{N: 4, Fan: 2}
	one, two := fewSafes()[0], busySafe()
	first, second := string(noteWritten(one)), string(noteWritten(two))
	cases := []struct {
		name string
		disk impl.Disk
		safe impl.Safe
		view int
		left string
	}{
		{"nothing", impl.Disk{}, impl.SafeNew(), 1, ""},
		{"one note, not sure", diskOf(first, 0), one, 3, first},
		{"one note, sure", diskOf(first, len(first)), one, 3, first},
		{"two notes, the first one sure", diskOf(first+second, len(first)), two, 6, first + second},
		{"two notes, back", diskOf(second+first, 0), one, 3, second + first},
		{"one note twice", diskOf(first+first, 4), one, 3, first + first},
		{"a torn end", diskOf(first+second[:len(second)-1], len(first)), one, 3, first},
		{"a torn end, sure", diskOf(first+second[:len(second)-1], len(first)+3), one, 3, first},
		{"a torn end, all sure", diskOf(first+second[:9], len(first)+9), one, 3, first},
		{"a torn end of the first one", diskOf(first[:5], 2), impl.SafeNew(), 1, ""},
		{"no note", diskOf("what is no note", 4), impl.SafeNew(), 1, ""},
		{"no note ahead of one", diskOf("x"+first, 4), impl.SafeNew(), 1, ""},
		{"no note between two", diskOf(first+"x"+second, 4), one, 3, first},
		{"a line's end behind", diskOf(first+"\n", 0), one, 3, first},
	}
	for _, k := range cases {
		r := busyRep()
		r.Disk = k.disk
		want := impl.Rep{Id: 2, View: k.view, Safe: k.safe, Disk: diskOf(k.left, len(k.left))}
		if got := impl.Rise(c, r); !sameRep(got, want) {
			t.Errorf("%s: Rise = %v, want %v", k.name, got, want)
		}
		if got := riseByWords(c, r); !sameRep(got, want) {
			t.Errorf("%s: the second reading is %v", k.name, got)
		}
	}
	for id := range 4 {
		r := keptRep(id, two)
		r.View, r.Asked = 60, 60
		if got := impl.Rise(c, r); got.Id != id || got.View != 6 || got.Asked != 0 {
			t.Errorf("Rise of %d = %v", id, got)
		}
	}
}

// TestRiseAtEachView has each Voted beside each View of High, from 0 to MaxView.
func TestRiseAtEachView(t *testing.T) {
	c := impl.Conf{N: 4, Fan: 2}
	for high := 0; high <= 60; high++ {
		q := impl.QcFirst()
		if high > 0 {
			q = enoughQc(c, nameByWords(chainOf(high)))
		}
		for voted := 0; voted <= 60; voted++ {
			want := voted
			if high >= voted {
				want = high + 1
			}
			if high == 60 {
				want = 60
			}
			for _, r := range []impl.Rep{keptRep(0, safeOf(voted, 60-voted, q, "/59|")), {View: 60, Asked: 60, Disk: diskOf(string(noteWritten(safeOf(voted, 0, q, ""))), 1)}} {
				if got := impl.Rise(c, r); got.View != want || !impl.RepOk(c, got) {
					t.Fatalf("Voted %d, View of High %d: Rise is at View %d, want %d", voted, high, got.View, want)
				}
			}
		}
	}
}

func TestState(t *testing.T) {
	c := impl.Conf{N: 4, Fan: 2}
	start := []int{100, 100, 100, 100}
	cases := []struct {
		name string
		done string
		has  []int
		next []int
	}{
		{"nothing done", "", start, []int{0, 0, 0, 0}},
		{"done without payments", "/1|/4|", start, []int{0, 0, 0, 0}},
		{"one payment", "/1|0>1:60#0", []int{40, 160, 100, 100}, []int{1, 0, 0, 0}},
		{"one to oneself", "/1|2>2:60#0", start, []int{0, 0, 1, 0}},
		{"two of a step", "/1|0>1:60#0,1>2:150#0", []int{40, 10, 250, 100}, []int{1, 1, 0, 0}},
		{"two steps", "/1|0>1:60#0/2|1>2:150#0", []int{40, 10, 250, 100}, []int{1, 1, 0, 0}},
		{"the other way round", "/1|1>2:150#0/2|0>1:60#0", []int{40, 160, 100, 100}, []int{1, 1, 0, 0}},
		{"one that is too poor uses its number up", "/1|0>1:101#0,0>1:30#1", []int{70, 130, 100, 100}, []int{2, 0, 0, 0}},
		{"one that comes too early", "/1|0>1:30#1/2|0>1:60#0", []int{40, 160, 100, 100}, []int{1, 0, 0, 0}},
		{"one that comes twice", "/1|0>1:30#0/2|0>1:30#0", []int{70, 130, 100, 100}, []int{1, 0, 0, 0}},
		{"one that comes twice in a step", "/1|0>1:30#0,0>1:30#0", []int{70, 130, 100, 100}, []int{1, 0, 0, 0}},
		{"poor and twice", "/1|0>1:60#0,0>2:60#1/2|0>1:60#0/9|3>0:25#0", []int{65, 160, 100, 75}, []int{2, 0, 0, 1}},
		{"all of all", "/1|1>0:100#0,2>0:100#0/2|3>0:100#0", []int{400, 0, 0, 0}, []int{0, 1, 1, 1}},
	}
	for _, k := range cases {
		r := busyRep()
		r.Safe.Done = k.done
		want := ledgerOf(k.has, k.next)
		if got := impl.State(c, r); !sameLedger(got, want) {
			t.Errorf("%s: State = %v, want %v", k.name, got, want)
		}
		if got := stateByWords(c, r); !sameLedger(got, want) {
			t.Errorf("%s: the second reading is %v", k.name, got)
		}
		if got := impl.State(c, impl.Rep{View: 1, Safe: safeOf(0, 0, impl.QcFirst(), k.done)}); !sameLedger(got, want) {
			t.Errorf("%s: State of one that has nothing else = %v", k.name, got)
		}
	}
	for _, r := range wrongReps() {
		if got := impl.State(c, r); len(got.Has) != 0 || len(got.Next) != 0 {
			t.Fatalf("State of what is not RepOk = %v", got)
		}
	}
	for _, c := range wrongConfs() {
		if got := impl.State(c, impl.Rep{View: 1}); len(got.Has) != 0 || len(got.Next) != 0 {
			t.Fatalf("State(%v) = %v", c, got)
		}
	}
}

func TestWrite(t *testing.T) {
	c := impl.Conf{N: 4, Fan: 2}
	for _, s := range fewSafes() {
		r := busyRep()
		got, ok := impl.Write(c, r, s)
		want := busyRep()
		want.Safe, want.Disk.Bytes = s, append(want.Disk.Bytes, noteWritten(s)...)
		if !ok || !sameRep(got, want) || !sameRep(r, busyRep()) {
			t.Errorf("Write of %v = %v, %v", s, got, ok)
		}
		again, ok := impl.Write(c, got, s)
		if !ok || !sameRep(again, want) {
			t.Errorf("Write of %v twice = %v, %v", s, again, ok)
		}
	}
	for _, r := range rightReps() {
		if got, ok := impl.Write(c, r, cloneSafe(r.Safe)); !ok || !sameRep(got, r) {
			t.Fatalf("Write of what it holds to is %v, or writes", ok)
		}
		for _, s := range wrongSafes() {
			if got, ok := impl.Write(c, r, s); ok || !sameRep(got, r) {
				t.Fatalf("Write of %v, which is not SafeOk = %v", s, ok)
			}
		}
	}
	for i, r := range wrongReps() {
		for _, s := range []impl.Safe{impl.SafeNew(), fewSafes()[0], busySafe(), cloneSafe(r.Safe), wrongSafes()[0]} {
			if got, ok := impl.Write(c, r, s); ok || !sameRep(got, r) {
				t.Fatalf("Write of what is not RepOk, number %d, is %v, or writes", i, ok)
			}
		}
	}
	for _, c := range wrongConfs() {
		for _, s := range []impl.Safe{impl.SafeNew(), fewSafes()[0]} {
			if got, ok := impl.Write(c, impl.Rep{View: 1}, s); ok || !sameRep(got, impl.Rep{View: 1}) {
				t.Fatalf("Write(%v) = %v", c, ok)
			}
		}
	}
}

// TestWriteOfOneFieldTurned: what differs in one field is another one, and is
// written.
func TestWriteOfOneFieldTurned(t *testing.T) {
	c := impl.Conf{N: 4, Fan: 2}
	r := keptRep(1, busySafe())
	for _, turn := range []func(*impl.Safe){
		func(s *impl.Safe) { s.Voted++ },
		func(s *impl.Safe) { s.Voted = 0 },
		func(s *impl.Safe) { s.Lock++ },
		func(s *impl.Safe) { s.Lock = 0 },
		func(s *impl.Safe) { s.High = qcOf(4, "/2|/4|", 0, 1, 3) },
		func(s *impl.Safe) { s.High.Who = []int{0, 2, 3} },
		func(s *impl.Safe) { s.High.Who = []int{0, 1, 2, 3} },
		func(s *impl.Safe) { s.High = impl.QcFirst() },
		func(s *impl.Safe) { s.Done = "/2|" },
		func(s *impl.Safe) { s.Done = "" },
	} {
		s := busySafe()
		turn(&s)
		got, ok := impl.Write(c, r, s)
		if !ok || !sameSafe(got.Safe, s) || len(got.Disk.Bytes) != len(r.Disk.Bytes)+len(noteWritten(s)) || !impl.Kept(c, got) {
			t.Errorf("Write of %v = %v, %v", s, got, ok)
		}
	}
}

// fullBut has notes alone, of 8 and of 11 bytes, and so many bytes less than a
// disk may have; the last note is of SafeNew.
func fullBut(left int) impl.Rep {
	var list []impl.Safe
	bytes := mostOnDisk - left
	for ; bytes%8 != 0; bytes -= 11 {
		list = append(list, safeOf(0, 0, impl.QcFirst(), "/2|"))
	}
	list = append(list, make([]impl.Safe, bytes/8)...)
	return keptRep(1, list...)
}

func TestWriteMeetsTheLimitOfTheDisk(t *testing.T) {
	c := impl.Conf{N: 4, Fan: 2}
	for _, s := range []impl.Safe{safeOf(1, 0, impl.QcFirst(), ""), fewSafes()[0], fewSafes()[6]} {
		long := len(noteWritten(s))
		for _, left := range []int{0, 1, long - 1, long, long + 1} {
			r := fullBut(left)
			if len(r.Disk.Bytes) != mostOnDisk-left || !impl.Kept(c, r) {
				t.Fatalf("%d bytes on a disk that has room for %d", len(r.Disk.Bytes), left)
			}
			for _, sure := range []int{0, len(r.Disk.Bytes)} {
				r.Disk.Sure = sure
				want := cloneRep(r)
				if long <= left {
					want.Safe, want.Disk.Bytes = s, append(want.Disk.Bytes, noteWritten(s)...)
				}
				got, ok := impl.Write(c, r, s)
				if ok != (long <= left) || !sameRep(got, want) || !impl.Kept(c, got) {
					t.Errorf("Write of %d bytes with room for %d = %v, %d bytes", long, left, ok, len(got.Disk.Bytes))
				}
				if got, ok := impl.Write(c, r, impl.SafeNew()); !ok || !sameRep(got, r) {
					t.Errorf("Write of what it holds to, with room for %d = %v", left, ok)
				}
			}
		}
	}
}

func checkRep(t *testing.T, c impl.Conf, r impl.Rep) {
	t.Helper()
	if got, want := impl.RepOk(c, r), repOkByWords(c, r); got != want {
		t.Fatalf("RepOk(%v, %v) = %v", c, r, got)
	}
	if got, want := impl.Kept(c, r), keptByWords(c, r); got != want {
		t.Fatalf("Kept(%v, %v) = %v", c, r, got)
	}
	if got, want := impl.Rise(c, r), riseByWords(c, r); !sameRep(got, want) {
		t.Fatalf("Rise(%v, %v) = %v, want %v", c, r, got, want)
	}
	if got, want := impl.State(c, r), stateByWords(c, r); !sameLedger(got, want) {
		t.Fatalf("State(%v, %v) = %v, want %v", c, r, got, want)
	}
}

func checkWrite(t *testing.T, c impl.Conf, r impl.Rep, s impl.Safe) impl.Rep {
	t.Helper()
	got, ok := impl.Write(c, r, s)
	want, wantOk := writeByWords(c, r, s)
	if ok != wantOk || !sameRep(got, want) {
		t.Fatalf("Write(%v, %v, %v) = %v, %v, want %v, %v", c, r, s, got, ok, want, wantOk)
	}
	return got
}

func TestRepsAsTheWordsSay(t *testing.T) {
	four := impl.Conf{N: 4, Fan: 2}
	for _, r := range allReps() {
		for _, c := range []impl.Conf{four, {N: 7, Fan: 1}, {N: 3, Fan: 2}, {N: 4, Fan: 0}} {
			checkRep(t, c, r)
			for _, s := range []impl.Safe{impl.SafeNew(), fewSafes()[0], r.Safe, wrongSafes()[3]} {
				checkWrite(t, c, r, s)
			}
		}
	}
	for _, s := range allSafes(four) {
		for _, r := range []impl.Rep{busyRep(), keptRep(0), keptRep(3, busySafe())} {
			checkRep(t, four, checkWrite(t, four, r, s))
		}
	}
}

// checkHolds is promise 15: what was written with true is held to, and by what
// rises, too.
func checkHolds(t *testing.T, c impl.Conf, was, r impl.Rep, s impl.Safe, ok bool) {
	t.Helper()
	if !ok {
		if !sameRep(r, was) || !impl.Kept(c, r) {
			t.Fatalf("a Write that is false turned %v into %v", was, r)
		}
		return
	}
	risen := impl.Rise(c, r)
	if !impl.Kept(c, r) || !impl.SafeSame(r.Safe, s) || !impl.SafeSame(risen.Safe, s) {
		t.Fatalf("wrote %v: holds to %v, and risen to %v", s, r.Safe, risen.Safe)
	}
	if !impl.Kept(c, risen) || risen.Disk.Sure != len(r.Disk.Bytes) || !sameRep(impl.Rise(c, risen), risen) {
		t.Fatalf("wrote %v: risen as %v, and again as %v", s, risen, impl.Rise(c, risen))
	}
	if risen.View < s.Voted || risen.View <= s.High.View && s.High.View < impl.MaxView {
		t.Fatalf("wrote %v: rose in View %d", s, risen.View)
	}
}

// TestWhatItWroteIsWhatItHoldsTo goes over all short rows of writing, making
// sure and rising.
func TestWhatItWroteIsWhatItHoldsTo(t *testing.T) {
	c := impl.Conf{N: 4, Fan: 2}
	safes := append(fewSafes(), wrongSafes()[0])
	var goOn func(r impl.Rep, left int)
	goOn = func(r impl.Rep, left int) {
		if left == 0 {
			return
		}
		for _, s := range safes {
			after, ok := impl.Write(c, r, s)
			if ok != safeOkByWords(c, s) {
				t.Fatalf("Write of %v = %v", s, ok)
			}
			checkHolds(t, c, r, after, s, ok)
			goOn(after, left-1)
		}
		sure := r
		sure.Disk = impl.Sync(r.Disk)
		goOn(sure, left-1)
		goOn(impl.Rise(c, r), left-1)
	}
	for id := range c.N {
		r, _ := impl.RepNew(c, id)
		goOn(r, 3)
	}
}

// TestWhatIsSureIsHeldToAfterAFall writes two, makes the first sure, and falls
// at each place: what rises holds to the last one that is there whole.
func TestWhatIsSureIsHeldToAfterAFall(t *testing.T) {
	c := impl.Conf{N: 4, Fan: 2}
	for _, sure := range fewSafes()[2:] {
		for _, unsure := range []impl.Safe{fewSafes()[0], busySafe()} {
			start, _ := impl.RepNew(c, 1)
			one, _ := impl.Write(c, start, sure)
			one.Disk = impl.Sync(one.Disk)
			two, ok := impl.Write(c, one, unsure)
			long := len(two.Disk.Bytes) - len(one.Disk.Bytes)
			if !ok || long < 8 {
				t.Fatal("the second one is not written")
			}
			for keep := -1; keep <= long+1; keep++ {
				fell := two
				fell.Disk = impl.FallTo(two.Disk, keep)
				want := one
				if keep >= long {
					want = two
				}
				risen := impl.Rise(c, fell)
				if !sameSafe(risen.Safe, want.Safe) || string(risen.Disk.Bytes) != string(want.Disk.Bytes) || !impl.Kept(c, risen) {
					t.Fatalf("keeping %d of %d: rose to %v, want %v", keep, long, risen, want)
				}
				on, ok := impl.Write(c, risen, safeOf(60, 60, impl.QcFirst(), ""))
				checkHolds(t, c, risen, on, safeOf(60, 60, impl.QcFirst(), ""), ok)
			}
		}
	}
}

// TestAllRisesAreRight: what rises is RepOk and Kept, whatever is on its disk;
// what is not RepOk comes back as it was.
func TestAllRisesAreRight(t *testing.T) {
	c := impl.Conf{N: 4, Fan: 2}
	for _, r := range rightReps() {
		risen := impl.Rise(c, r)
		if !impl.RepOk(c, risen) || !impl.Kept(c, risen) || !sameRep(impl.Rise(c, risen), risen) {
			t.Fatalf("Rise(%v) = %v", r, risen)
		}
		if risen.Id != r.Id || risen.Asked != 0 || len(risen.Pool) != 0 || len(risen.Table) != 0 || len(risen.Held) != 0 || risen.Disk.Sure != len(risen.Disk.Bytes) {
			t.Fatalf("Rise(%v) = %v", r, risen)
		}
	}
	for i, r := range wrongReps() {
		if got := impl.Rise(c, r); !sameRep(got, r) {
			t.Fatalf("Rise of what is not RepOk, number %d, turns it", i)
		}
	}
	for _, c := range wrongConfs() {
		for _, r := range []impl.Rep{busyRep(), keptRep(0, fewSafes()[0])} {
			if got := impl.Rise(c, r); !sameRep(got, r) {
				t.Fatalf("Rise(%v) turns it", c)
			}
		}
	}
}

// roomyRep is a replica with room behind each of its lists, in which every write
// is seen.
type roomyRep struct {
	given       impl.Rep
	table       roomyTable
	txs         []impl.Tx
	txsBefore   []impl.Tx
	bytes       []byte
	bytesBefore []byte
	posts       []impl.Post
	postsBefore []impl.Post
	lists       [][]int
	listsBefore [][]int
}

func repWithRoom(r impl.Rep) roomyRep {
	room := roomyRep{given: r, table: tableWithRoom(r.Table)}
	var who []int
	room.given.Safe, who = safeWithRoom(r.Safe)
	room.lists = append(room.lists, who)
	room.given.Pool, room.txs = poolWithRoom(r.Pool)
	room.given.Table = room.table.given
	room.given.Disk.Bytes, room.bytes = bytesWithRoom(r.Disk.Bytes, noteWritten(fewSafes()[2]))
	for _, p := range slices.Concat(r.Held, busyPosts()) {
		m, lists := msgWithRoom(p.Msg)
		room.posts, room.lists = append(room.posts, postOf(p.To, m)), append(room.lists, lists...)
	}
	room.given.Held = room.posts[:len(r.Held)]
	room.txsBefore, room.bytesBefore = slices.Clone(room.txs), slices.Clone(room.bytes)
	room.postsBefore, room.listsBefore = clonePosts(room.posts), cloneLists(room.lists)
	return room
}

func (r roomyRep) untouched() bool {
	return r.table.untouched() && slices.Equal(r.txs, r.txsBefore) && string(r.bytes) == string(r.bytesBefore) &&
		samePosts(r.posts, r.postsBefore) && slices.EqualFunc(r.lists, r.listsBefore, slices.Equal)
}

// intListsOf has each list of numbers that a replica has.
func intListsOf(r impl.Rep) [][]int {
	out := [][]int{r.Safe.High.Who}
	for _, p := range r.Table {
		out = append(out, p.Who)
	}
	for _, p := range r.Held {
		for _, f := range msgLists() {
			out = append(out, *f.of(&p.Msg))
		}
	}
	return out
}

// spoilRep writes over all of a replica's lists, and over the room behind them.
func spoilRep(r impl.Rep) {
	for _, list := range intListsOf(r) {
		spoilInts(list)
	}
	spoilTxs(r.Pool)
	spoilParts(r.Table)
	spoilBytes(r.Disk.Bytes)
	spoilPosts(r.Held)
}

func spoilPosts(list []impl.Post) {
	all := list[:cap(list)]
	for i := range all {
		spoilMsg(all[i].Msg)
		all[i] = postOf(-777, impl.Msg{Kind: -777})
	}
}

// checkOwnIntLists writes another number into each list of an answer: each one
// has its own in the end.
func checkOwnIntLists(t *testing.T, name string, r impl.Rep) {
	t.Helper()
	lists := intListsOf(r)
	for i, list := range lists {
		all := list[:cap(list)]
		for at := range all {
			all[at] = i
		}
	}
	for i, list := range lists {
		if slices.ContainsFunc(list[:cap(list)], func(n int) bool { return n != i }) {
			t.Fatalf("%s: list %d of an answer shares memory with another", name, i)
		}
	}
}

// checkRepMemory calls twice: the second answer has to stay, whatever happens to
// the first one and to the argument.
func checkRepMemory(t *testing.T, name string, r impl.Rep, call func(impl.Rep) impl.Rep) {
	t.Helper()
	room := repWithRoom(r)
	got, again := call(room.given), call(room.given)
	if !sameRep(got, call(r)) || !sameRep(got, again) {
		t.Fatalf("%s: room behind its lists counts, or it answers otherwise the second time", name)
	}
	want := cloneRep(got)
	if !room.untouched() || !sameRep(room.given, r) {
		t.Fatalf("%s wrote into its argument", name)
	}
	spoilRep(got)
	if !room.untouched() {
		t.Fatalf("%s shares memory with its argument", name)
	}
	if !sameRep(again, want) {
		t.Fatalf("%s: an answer shares memory with an earlier one", name)
	}
	spoilRep(room.given)
	if !sameRep(again, want) {
		t.Fatalf("%s: an answer changes with its argument", name)
	}
	checkOwnIntLists(t, name, again)
}

func TestRepsAreNewMemory(t *testing.T) {
	c := impl.Conf{N: 4, Fan: 2}
	for _, r := range slices.Concat(rightReps(), wrongReps()) {
		checkRepMemory(t, "Rise", r, func(r impl.Rep) impl.Rep { return impl.Rise(c, r) })
		checkRepMemory(t, "RepOk, Kept and State", r, func(r impl.Rep) impl.Rep {
			l := impl.State(c, r)
			if impl.RepOk(c, r) != (len(l.Has) > 0) || impl.Kept(c, r) && len(l.Has) == 0 {
				t.Fatal("State and RepOk differ")
			}
			return impl.Rep{}
		})
		for _, s := range []impl.Safe{fewSafes()[0], r.Safe, wrongSafes()[20]} {
			given, whole := safeWithRoom(s)
			before := slices.Clone(whole)
			checkRepMemory(t, "Write", r, func(r impl.Rep) impl.Rep {
				got, _ := impl.Write(c, r, given)
				return got
			})
			if !slices.Equal(whole, before) {
				t.Fatalf("Write of %v wrote into it, or shares memory with it", s)
			}
		}
	}
}

// TestWhatIsWrittenIsNotKept turns what was written behind the call.
func TestWhatIsWrittenIsNotKept(t *testing.T) {
	c := impl.Conf{N: 4, Fan: 2}
	for _, s := range append(fewSafes(), busySafe()) {
		given := cloneSafe(s)
		r, ok := impl.Write(c, busyRep(), given)
		spoilInts(given.High.Who)
		if !ok || !sameSafe(r.Safe, s) {
			t.Fatalf("what was written turns with what was handed in: %v", r.Safe)
		}
	}
	one, _ := impl.RepNew(c, 1)
	two, _ := impl.RepNew(c, 1)
	one.Safe.High.Who = append(one.Safe.High.Who, 3)
	one.Disk.Bytes = append(one.Disk.Bytes, 'x')
	if !sameRep(two, impl.Rep{Id: 1, View: 1}) {
		t.Error("two new ones share memory")
	}
}

// TestStatesAreNewMemory turns one answer: the other one stays, and so do the
// two lists of one.
func TestStatesAreNewMemory(t *testing.T) {
	c := impl.Conf{N: 4, Fan: 2}
	got, again := impl.State(c, busyRep()), impl.State(c, busyRep())
	want := cloneLedger(again)
	spoilInts(got.Has)
	if !slices.Equal(got.Next, want.Next) {
		t.Error("the lists of one share memory")
	}
	spoilInts(got.Next)
	if !sameLedger(again, want) || !sameLedger(impl.State(c, busyRep()), want) {
		t.Error("an answer turns with another one")
	}
}

// TestRepsOfOneList hands in one list of numbers at many places: each answer has
// a list of its own at each.
func TestRepsOfOneList(t *testing.T) {
	c := impl.Conf{N: 4, Fan: 2}
	who := []int{0, 1, 3}
	q := qcOf(2, "/2|", who...)
	r := impl.Rep{
		Id: 2, View: 3, Safe: safeOf(2, 1, q, "/1|"),
		Table: []impl.Part{partOf(3, "", who...), partOf(3, "/2|/3|", who...)},
		Held:  []impl.Post{postOf(0, blockMsg(blockOf("/2|/3|", q))), postOf(1, partMsg(partOf(2, "/2|", who...))), postOf(3, viewMsg(3, 2, q))},
		Disk:  diskOf(string(noteWritten(safeOf(2, 1, q, "/1|"))), 0),
	}
	r.Held[0].Msg.Block.Qc.Who, r.Held[1].Msg.Part.Who, r.Held[2].Msg.Qc.Who, r.Table[0].Who, r.Table[1].Who = who, who, who, who, who
	r.Safe.High.Who = who
	for _, s := range []impl.Safe{r.Safe, safeOf(3, 1, q, "/1|")} {
		got, ok := impl.Write(c, r, s)
		if want, _ := writeByWords(c, r, s); !ok || !sameRep(got, want) {
			t.Fatalf("Write = %v, %v", got, ok)
		}
		checkOwnIntLists(t, "Write", got)
	}
	wrong := r
	wrong.View = 0
	checkOwnIntLists(t, "Rise of what is not RepOk", impl.Rise(c, wrong))
	checkOwnIntLists(t, "Rise", impl.Rise(c, r))
	if !slices.Equal(who, []int{0, 1, 3}) {
		t.Errorf("what all share was written into: %v", who)
	}
}

// TestRepsDoNotReadBehindTheirLists has what would make it wrong, or right, in
// the spare room.
func TestRepsDoNotReadBehindTheirLists(t *testing.T) {
	c := impl.Conf{N: 4, Fan: 2}
	held := heldTimes(mostHeld+1, busyPosts()...)
	held[mostHeld] = postOf(9, impl.Msg{})
	if !impl.RepOk(c, impl.Rep{Id: 2, View: 1, Held: held[:mostHeld]}) || impl.RepOk(c, impl.Rep{Id: 2, View: 1, Held: held}) {
		t.Error("what stands behind Held counts")
	}
	notes := notesWritten(fewSafes()[0], busySafe())
	cut := len(noteWritten(fewSafes()[0]))
	r := impl.Rep{Id: 2, View: 1, Safe: fewSafes()[0], Disk: impl.Disk{Bytes: notes[:cut]}}
	if risen := impl.Rise(c, r); !sameSafe(risen.Safe, fewSafes()[0]) || len(risen.Disk.Bytes) != cut || !impl.Kept(c, r) {
		t.Error("what stands behind the disk counts")
	}
	r.Disk.Bytes = notes[:len(notes)-1]
	if risen := impl.Rise(c, r); !sameSafe(risen.Safe, fewSafes()[0]) || impl.Kept(c, r) {
		t.Error("the byte behind a torn note counts")
	}
	who := []int{0, 1, 2, 3}
	few := safeOf(0, 0, qcOf(2, "/2|", who[:2]...), "")
	few.High.Who = who[:2]
	if got, ok := impl.Write(c, keptRep(1), few); ok || !sameRep(got, keptRep(1)) || impl.RepOk(c, impl.Rep{View: 1, Safe: few}) {
		t.Error("what stands behind Who counts")
	}
}

// TestRepsKeepNothing asks the same again once others were asked, and many at
// once.
func TestRepsKeepNothing(t *testing.T) {
	c := impl.Conf{N: 4, Fan: 2}
	for range 3 {
		for _, r := range append(wrongReps()[:8], keptRep(0), busyRep(), keptRep(3, fewSafes()...)) {
			checkRep(t, c, r)
			checkRep(t, impl.Conf{N: 7, Fan: 3}, r)
			checkWrite(t, c, r, fewSafes()[0])
		}
	}
	r, s := busyRep(), fewSafes()[0]
	wantRisen := riseByWords(c, r)
	want, _ := writeByWords(c, r, s)
	var all sync.WaitGroup
	right := make([]bool, 64)
	for i := range right {
		all.Go(func() {
			wrote, ok := impl.Write(c, r, s)
			right[i] = ok && sameRep(wrote, want) && sameRep(impl.Rise(c, r), wantRisen) && impl.RepOk(c, r) && !impl.Kept(c, r) && impl.Total(impl.State(c, r)) == 400
		})
	}
	all.Wait()
	if i := slices.Index(right, false); i >= 0 {
		t.Errorf("asked at once, number %d is answered otherwise", i)
	}
}

// TestGreatReps has far more of each than is right: it is refused, and told as
// it was.
func TestGreatReps(t *testing.T) {
	c := impl.Conf{N: 4, Fan: 2}
	who, name := viewsFrom(0, 50000), strings.Repeat("/1|", 50000)
	great := qcOf(1, name, who...)
	for i, turn := range []func(*impl.Rep){
		func(r *impl.Rep) { r.Safe.High = great },
		func(r *impl.Rep) { r.Safe.Done = name },
		func(r *impl.Rep) { r.Pool = make([]impl.Tx, 50000) },
		func(r *impl.Rep) { r.Table = make([]impl.Part, 50000) },
		func(r *impl.Rep) { r.Table = []impl.Part{partOf(1, "/1|", who...)} },
		func(r *impl.Rep) { r.Disk.Bytes = make([]byte, 1<<22) },
		func(r *impl.Rep) { r.Held = heldTimes(50000, busyPosts()...) },
		func(r *impl.Rep) { r.Held = make([]impl.Post, 50000) },
		func(r *impl.Rep) { r.Held = []impl.Post{postOf(1, viewMsg(1, 1, great))} },
		func(r *impl.Rep) { r.Held = []impl.Post{postOf(1, partMsg(partOf(1, name, who...)))} },
	} {
		r := busyRep()
		turn(&r)
		l := impl.State(c, r)
		wrote, ok := impl.Write(c, r, fewSafes()[0])
		if impl.RepOk(c, r) || impl.Kept(c, r) || len(l.Has) != 0 || ok || !sameRep(wrote, r) || !sameRep(impl.Rise(c, r), r) {
			t.Errorf("a great one, number %d", i)
		}
	}
	if got, ok := impl.Write(c, busyRep(), safeOf(0, 0, great, name)); ok || !sameRep(got, busyRep()) {
		t.Error("Write of a great Safe")
	}
}
