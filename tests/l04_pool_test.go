package tests

import (
	"slices"
	"testing"

	"loop.example/g00448/impl"
)

// fullPool has MaxPool payments of all accounts, with room for others ahead of
// them, between them and behind them.
func fullPool() []impl.Tx {
	var out []impl.Tx
	for from := range impl.Accounts {
		for _, nonce := range []int{1, 10, 50} {
			out = append(out, impl.Tx{From: from, To: (from + nonce) % 4, Amount: 7*nonce + from, Nonce: nonce})
		}
	}
	return out
}

func rightPools() [][]impl.Tx {
	full := fullPool()
	return [][]impl.Tx{
		nil,
		{},
		{{}},
		{{From: 3, To: 3, Amount: 1000, Nonce: 99}},
		{{Nonce: 98}, {Nonce: 99}},
		{{Nonce: 99}, {From: 1}},
		{{Amount: 60, To: 1}, {Nonce: 1}, {From: 1, Amount: 160}, {From: 2, Amount: 101}, {From: 2, Nonce: 1, Amount: 1}},
		{{From: 0, Nonce: 2, Amount: 50}, {From: 1, Nonce: 1}, {From: 2, Nonce: 99}, {From: 3, Nonce: 99}},
		{{From: 1, Amount: 1000, To: 3}, {From: 2, Amount: 5, To: 2}, {From: 3, Amount: 0}},
		full[:5],
		full[:impl.MaxPool-1],
		full,
	}
}

// wrongPools has lists that are too long, that hold what is not TxOk at each
// place, and each kind of neighbours in the wrong order at each place.
func wrongPools() [][]impl.Tx {
	full := fullPool()
	out := [][]impl.Tx{
		append(fullPool(), impl.Tx{From: 3, Nonce: 51}),
		append(fullPool(), impl.Tx{From: 3, Nonce: 51}, impl.Tx{From: 3, Nonce: 52}),
		make([]impl.Tx, 40),
		{{From: 1, Nonce: 0}, {From: 0, Nonce: 0}},
		{{From: 1, Nonce: 0}, {From: 0, Nonce: 1}},
		{{From: 1, Nonce: 1}, {From: 0, Nonce: 0}},
		{{From: 0, Nonce: 1}, {From: 0, Nonce: 0}},
		{{From: 2, Nonce: 3}, {From: 2, Nonce: 3}},
		{{From: 2, Nonce: 3}, {From: 2, Nonce: 3, To: 1}},
		{{From: 2, Nonce: 3, Amount: 4}, {From: 2, Nonce: 3, Amount: 5}},
		{{From: 0}, {From: 1}, {From: 0}},
		{{Nonce: 0}, {Nonce: 1}, {Nonce: 0}},
	}
	for _, x := range wrongTxs() {
		out = append(out, []impl.Tx{x})
	}
	for i := range full {
		for _, x := range wrongTxs() {
			list := slices.Clone(full)
			list[i] = x
			out = append(out, list)
		}
		bad := slices.Clone(full)
		bad[i].Amount = impl.MaxAmount + 1
		out = append(out, bad)
		for j := range i {
			turned := slices.Clone(full)
			turned[i], turned[j] = turned[j], turned[i]
			again := slices.Clone(full)
			again[i].From, again[i].Nonce = again[j].From, again[j].Nonce
			out = append(out, turned, again)
		}
	}
	return out
}

// shortPools has all lists of up to three of some payments that differ in each
// field; one of these is not TxOk.
func shortPools() [][]impl.Tx {
	some := []impl.Tx{
		{From: 0, Nonce: 0}, {From: 0, Nonce: 0, To: 1}, {From: 0, Nonce: 1, Amount: 100}, {From: 0, Nonce: 2, Amount: 1},
		{From: 1, Nonce: 0, Amount: 101}, {From: 1, Nonce: 1, To: 2, Amount: 100}, {From: 2, Nonce: 0, To: 3, Amount: 300}, {From: 1, To: 4, Nonce: 0},
	}
	out := [][]impl.Tx{nil}
	for from := 0; len(out[from]) < 3; from++ {
		for _, x := range some {
			out = append(out, append(slices.Clone(out[from]), x))
		}
	}
	return out
}

func allPools() [][]impl.Tx {
	return slices.Concat(rightPools(), wrongPools(), shortPools())
}

// poolOkByWords holds every one against every other, not neighbours alone.
func poolOkByWords(p []impl.Tx) bool {
	for i, x := range p {
		if i >= 12 || !impl.TxOk(x) {
			return false
		}
		for _, y := range p[:i] {
			if y.From*1000+y.Nonce >= x.From*1000+x.Nonce {
				return false
			}
		}
	}
	return true
}

func TestPoolLimits(t *testing.T) {
	if impl.MaxPool != 12 || impl.MaxBlock != 2 {
		t.Error(impl.MaxPool, impl.MaxBlock)
	}
}

func TestPoolOk(t *testing.T) {
	for _, p := range rightPools() {
		if !impl.PoolOk(p) {
			t.Errorf("PoolOk(%v) is false", p)
		}
	}
	for _, p := range wrongPools() {
		if impl.PoolOk(p) {
			t.Errorf("PoolOk(%v) is true", p)
		}
	}
}

func TestPoolOkAsTheWordsSay(t *testing.T) {
	right := 0
	for _, p := range allPools() {
		want := poolOkByWords(p)
		if got := impl.PoolOk(p); got != want {
			t.Errorf("PoolOk(%v) = %v", p, got)
		}
		if want {
			right++
		}
	}
	if right < 20 {
		t.Errorf("%d lists alone are right", right)
	}
}

func TestPoolOkAtEachLength(t *testing.T) {
	var p []impl.Tx
	for n := range 40 {
		if got := impl.PoolOk(p); got != (n <= 12) {
			t.Errorf("%d payments: %v", n, got)
		}
		p = append(p, impl.Tx{From: 1, To: 2, Nonce: n})
	}
}

func TestPoolOkDoesNotReadBehindItsList(t *testing.T) {
	room := append(fullPool(), impl.Tx{From: -1}, impl.Tx{})
	if !impl.PoolOk(room[:impl.MaxPool]) {
		t.Error("what stands behind a list makes a pool wrong")
	}
}

func TestPoolAddPutsItInItsPlace(t *testing.T) {
	a, b, c := impl.Tx{From: 0, Nonce: 3, Amount: 1}, impl.Tx{From: 1, Nonce: 5, Amount: 2}, impl.Tx{From: 1, Nonce: 7, Amount: 3}
	p := []impl.Tx{a, b, c}
	cases := []struct {
		name string
		p    []impl.Tx
		x    impl.Tx
		want []impl.Tx
	}{
		{"into none", nil, b, []impl.Tx{b}},
		{"into an empty list", []impl.Tx{}, impl.Tx{}, []impl.Tx{{}}},
		{"ahead of all, by Nonce", p, impl.Tx{From: 0, Nonce: 2}, []impl.Tx{{From: 0, Nonce: 2}, a, b, c}},
		{"ahead of one, by From, though not by Nonce", []impl.Tx{b}, impl.Tx{From: 0, Nonce: 99}, []impl.Tx{{From: 0, Nonce: 99}, b}},
		{"between two of other From", p, impl.Tx{From: 0, Nonce: 4}, []impl.Tx{a, {From: 0, Nonce: 4}, b, c}},
		{"between two, ahead by Nonce", p, impl.Tx{From: 1, Nonce: 0}, []impl.Tx{a, {From: 1, Nonce: 0}, b, c}},
		{"between two of one From", p, impl.Tx{From: 1, Nonce: 6}, []impl.Tx{a, b, {From: 1, Nonce: 6}, c}},
		{"behind all, by Nonce", p, impl.Tx{From: 1, Nonce: 8}, []impl.Tx{a, b, c, {From: 1, Nonce: 8}}},
		{"behind all, by From, though not by Nonce", p, impl.Tx{From: 2}, []impl.Tx{a, b, c, {From: 2}}},
		{"the same but its From", p, impl.Tx{From: 2, Nonce: 5, Amount: 2}, []impl.Tx{a, b, c, {From: 2, Nonce: 5, Amount: 2}}},
	}
	for _, c := range cases {
		if got, ok := impl.PoolAdd(c.p, c.x); !ok || !slices.Equal(got, c.want) {
			t.Errorf("%s: PoolAdd = %v, %v, want %v", c.name, got, ok, c.want)
		}
	}
}

func TestPoolAddFillsAPool(t *testing.T) {
	full := fullPool()
	for i := range full {
		less := slices.Concat(full[:i], full[i+1:])
		if got, ok := impl.PoolAdd(less, full[i]); !ok || !slices.Equal(got, full) {
			t.Errorf("place %d: PoolAdd = %v, %v", i, got, ok)
		}
	}
	for _, x := range []impl.Tx{{}, {From: 1, Nonce: 20}, {From: 3, Nonce: 99}, full[0], full[11], {From: 4}} {
		if got, ok := impl.PoolAdd(full, x); ok || !slices.Equal(got, full) {
			t.Errorf("%v into a full pool: %v, %v", x, got, ok)
		}
	}
}

func TestPoolAddRefuses(t *testing.T) {
	for _, p := range rightPools() {
		for _, x := range wrongTxs() {
			if got, ok := impl.PoolAdd(p, x); ok || !slices.Equal(got, p) {
				t.Errorf("PoolAdd(%v, %v) = %v, %v, want it as it was, and false", p, x, got, ok)
			}
		}
		for _, x := range p {
			for _, again := range []impl.Tx{x, {From: x.From, Nonce: x.Nonce, To: 3 - x.To, Amount: x.Amount}, {From: x.From, Nonce: x.Nonce, To: x.To, Amount: 1000 - x.Amount}} {
				if got, ok := impl.PoolAdd(p, again); ok || !slices.Equal(got, p) {
					t.Errorf("PoolAdd(%v, %v) = %v, %v, want it as it was, and false", p, again, got, ok)
				}
			}
		}
	}
	for _, p := range wrongPools() {
		for _, x := range slices.Concat(sampleTxs(), fullPool(), []impl.Tx{{From: -1}, {From: 1, Nonce: 20}}) {
			if got, ok := impl.PoolAdd(p, x); ok || !slices.Equal(got, p) {
				t.Errorf("PoolAdd(%v, %v) = %v, %v, want it as it was, and false", p, x, got, ok)
			}
		}
	}
}

// TestPoolAddAsTheWordsSay tries x at every place: where one of these is a
// pool, that is the answer.
func TestPoolAddAsTheWordsSay(t *testing.T) {
	done := 0
	for _, p := range allPools() {
		for _, x := range slices.Concat(sampleTxs(), fullPool(), []impl.Tx{{From: 0, Nonce: 1}, {From: 1, Nonce: 20}, {To: -1}}) {
			want, wantOk := p, false
			for i := range len(p) + 1 {
				if list := slices.Concat(p[:i], []impl.Tx{x}, p[i:]); poolOkByWords(list) {
					want, wantOk = list, true
				}
			}
			if got, ok := impl.PoolAdd(p, x); ok != wantOk || !slices.Equal(got, want) {
				t.Fatalf("PoolAdd(%v, %v) = %v, %v, want %v, %v", p, x, got, ok, want, wantOk)
			}
			if wantOk {
				done++
			}
		}
	}
	if done < 100 {
		t.Errorf("%d alone were added", done)
	}
}

// TestPoolAddInAnyOrder adds the same payments from first to last, from last to
// first, and by strides: one pool comes of it.
func TestPoolAddInAnyOrder(t *testing.T) {
	full := fullPool()
	for _, stride := range []int{1, 5, 7, 11} {
		for first := range full {
			var p []impl.Tx
			for i := range full {
				var ok bool
				if p, ok = impl.PoolAdd(p, full[(first+i*stride)%len(full)]); !ok || !impl.PoolOk(p) || len(p) != i+1 {
					t.Fatalf("stride %d from %d on: %v, %v", stride, first, p, ok)
				}
			}
			if !slices.Equal(p, full) {
				t.Errorf("stride %d from %d on: %v", stride, first, p)
			}
		}
	}
}

func TestPoolTake(t *testing.T) {
	l := ledgerOf([]int{40, 160, 0, 200}, []int{2, 1, 99, 100})
	one, two := impl.Tx{From: 0, To: 2, Amount: 40, Nonce: 2}, impl.Tx{From: 0, To: 1, Amount: 1, Nonce: 3}
	three, four := impl.Tx{From: 1, To: 0, Amount: 5, Nonce: 1}, impl.Tx{From: 2, To: 0, Amount: 1, Nonce: 99}
	old, early, used := impl.Tx{From: 0, Nonce: 1}, impl.Tx{From: 0, Nonce: 4}, impl.Tx{From: 3, Nonce: 99}
	cases := []struct {
		name string
		p    []impl.Tx
		want []impl.Tx
	}{
		{"none of none", nil, nil},
		{"none of an empty list", []impl.Tx{}, nil},
		{"one of one", []impl.Tx{one}, []impl.Tx{one}},
		{"the first two", []impl.Tx{one, two, three, four}, []impl.Tx{one, two}},
		{"a second one by the number behind the first", []impl.Tx{one, two}, []impl.Tx{one, two}},
		{"without the first it is early", []impl.Tx{two, three}, []impl.Tx{three}},
		{"old ones are gone past", []impl.Tx{{From: 0}, old, one, three, four}, []impl.Tx{one, three}},
		{"early ones are gone past", []impl.Tx{one, early, three, four}, []impl.Tx{one, three}},
		{"one behind many that are gone past", []impl.Tx{{From: 0}, old, early, {From: 0, Nonce: 5}, {From: 1}, {From: 1, Nonce: 2}, {From: 2}, {From: 2, Nonce: 1}, {From: 2, Nonce: 98}, four, {From: 3}, used}, []impl.Tx{four}},
		{"none can be paid", []impl.Tx{old, early, {From: 3}, used}, nil},
		{"poor ones are taken", []impl.Tx{{From: 0, Nonce: 2, Amount: 41}, {From: 2, Nonce: 99, Amount: 1}, used}, []impl.Tx{{From: 0, Nonce: 2, Amount: 41}, {From: 2, Nonce: 99, Amount: 1}}},
		{"a poor one uses its number up", []impl.Tx{{From: 0, Nonce: 2, Amount: 1000}, two, three}, []impl.Tx{{From: 0, Nonce: 2, Amount: 1000}, two}},
		{"the last number", []impl.Tx{four, used}, []impl.Tx{four}},
		{"out of order: what comes early stays so", []impl.Tx{two, one, three}, []impl.Tx{one, three}},
		{"out of order, by From", []impl.Tx{four, three, one}, []impl.Tx{four, three}},
		{"one number twice: the first one", []impl.Tx{{From: 1, Nonce: 1, Amount: 7}, {From: 1, Nonce: 1, Amount: 8}, four}, []impl.Tx{{From: 1, Nonce: 1, Amount: 7}, four}},
		{"what is not TxOk is gone past", []impl.Tx{{From: -1}, one, {From: 4}, {From: 1, Nonce: 1, Amount: -1}, {From: 1, Nonce: 1, To: 4}, {From: 3, Nonce: 100}, three}, []impl.Tx{one, three}},
		{"behind more than a pool holds", append(slices.Repeat([]impl.Tx{old}, 30), three), []impl.Tx{three}},
	}
	for _, c := range cases {
		if got := impl.PoolTake(c.p, l); !slices.Equal(got, c.want) {
			t.Errorf("%s: PoolTake = %v, want %v", c.name, got, c.want)
		}
	}
}

// TestPoolTakeAsksBehindThoseTaken has payments of which Pay tells something
// else behind the ones taken than it does at first.
func TestPoolTakeAsksBehindThoseTaken(t *testing.T) {
	l := ledgerOf([]int{300, 350, 400, 0}, []int{7, 0, 99, 0})
	full := impl.Tx{From: 0, To: 1, Amount: 51, Nonce: 7}
	fits := impl.Tx{From: 0, To: 1, Amount: 50, Nonce: 7}
	cases := []struct {
		name string
		p    []impl.Tx
		want []impl.Tx
	}{
		{"its receiver would have too much", []impl.Tx{full, {From: 2, To: 3, Amount: 9, Nonce: 99}}, []impl.Tx{{From: 2, To: 3, Amount: 9, Nonce: 99}}},
		{"such a one uses no number up", []impl.Tx{full, {From: 0, To: 3, Amount: 9, Nonce: 8}, {From: 1, Amount: 3}}, []impl.Tx{{From: 1, Amount: 3}}},
		{"its receiver has too much behind the first", []impl.Tx{fits, {From: 2, To: 1, Amount: 1, Nonce: 99}, {From: 3}}, []impl.Tx{fits, {From: 3}}},
		{"its receiver has too much at first alone", []impl.Tx{{From: 1, To: 3, Amount: 350}, {From: 2, To: 1, Amount: 51, Nonce: 99}}, []impl.Tx{{From: 1, To: 3, Amount: 350}, {From: 2, To: 1, Amount: 51, Nonce: 99}}},
		{"three numbers of one account", []impl.Tx{{From: 1}, {From: 1, Nonce: 1}, {From: 1, Nonce: 2}}, []impl.Tx{{From: 1}, {From: 1, Nonce: 1}}},
		{"a hole in the numbers", []impl.Tx{{From: 1}, {From: 1, Nonce: 2}, {From: 3, Nonce: 1}}, []impl.Tx{{From: 1}}},
	}
	for _, c := range cases {
		if got := impl.PoolTake(c.p, l); !slices.Equal(got, c.want) {
			t.Errorf("%s: PoolTake = %v, want %v", c.name, got, c.want)
		}
	}
}

func takeByWords(p []impl.Tx, l impl.Ledger) []impl.Tx {
	var taken []impl.Tx
	for _, x := range p {
		after, code := payByWords(l, x)
		if code == impl.PyDone || code == impl.PyPoor {
			taken, l = append(taken, x), after
		}
	}
	return taken[:min(len(taken), 2)]
}

func TestPoolTakeAsTheWordsSay(t *testing.T) {
	many := map[int]int{}
	for _, l := range append(rightLedgers(), wrongLedgers()[:12]...) {
		for _, p := range append(allPools(), mixedPools(l)...) {
			got, want := impl.PoolTake(p, l), takeByWords(p, l)
			if !slices.Equal(got, want) {
				t.Fatalf("PoolTake(%v, %v) = %v, want %v", p, l, got, want)
			}
			many[len(got)]++
		}
	}
	for n := range impl.MaxBlock + 1 {
		if many[n] < 20 {
			t.Errorf("%d were taken %d times alone", n, many[n])
		}
	}
}

// mixedPools makes pools whose numbers lie about the next ones of a ledger.
func mixedPools(l impl.Ledger) [][]impl.Tx {
	if !impl.LedgerOk(l) {
		return nil
	}
	var out [][]impl.Tx
	for seed := range 200 {
		var p []impl.Tx
		for i := range impl.MaxPool + 2 {
			n := (seed*7919 + i*i*31 + i*1709) % 100003
			x := impl.Tx{From: n % 4, To: n / 4 % 4, Amount: n / 16 % 220}
			x.Nonce = l.Next[x.From] + n/7%4 - 1
			p, _ = impl.PoolAdd(p, x)
		}
		out = append(out, p)
	}
	return out
}

func TestWhatIsTakenCanBePaid(t *testing.T) {
	codesSeen := map[int]int{}
	for _, l := range rightLedgers() {
		for _, p := range append(allPools(), mixedPools(l)...) {
			taken := impl.PoolTake(p, l)
			after, codes := impl.PayAll(l, taken)
			if len(taken) > impl.MaxBlock || len(codes) != len(taken) || !impl.LedgerOk(after) {
				t.Fatalf("PoolTake(%v, %v) = %v", p, l, taken)
			}
			for _, code := range codes {
				codesSeen[code]++
				if code != impl.PyDone && code != impl.PyPoor {
					t.Fatalf("PoolTake(%v, %v) = %v, which PayAll tells %v of", p, l, taken, codes)
				}
			}
			if impl.PoolOk(p) && !impl.PoolOk(taken) {
				t.Fatalf("PoolTake(%v, %v) = %v, which is no pool", p, l, taken)
			}
		}
	}
	if codesSeen[impl.PyDone] == 0 || codesSeen[impl.PyPoor] == 0 {
		t.Errorf("codes seen: %v", codesSeen)
	}
}

// TestAPoolIsTakenBlockByBlock takes, pays and drops until nothing is left:
// every payment counts, each once.
func TestAPoolIsTakenBlockByBlock(t *testing.T) {
	var p, all []impl.Tx
	for from := range impl.Accounts {
		for nonce := range 3 {
			p = append(p, impl.Tx{From: from, To: (from + 1) % 4, Amount: 45, Nonce: nonce})
		}
	}
	l, left := impl.LedgerNew(), slices.Clone(p)
	for range 6 {
		taken := impl.PoolTake(left, l)
		if len(taken) != impl.MaxBlock {
			t.Fatalf("%v of %v", taken, left)
		}
		all = append(all, taken...)
		l, _ = impl.PayAll(l, taken)
		left = impl.PoolDrop(left, l)
	}
	if len(left) != 0 || !slices.Equal(all, p) || !slices.Equal(l.Next, []int{3, 3, 3, 3}) {
		t.Errorf("left %v, taken %v, %v", left, all, l)
	}
	if again := impl.PoolTake(p, l); len(again) != 0 {
		t.Errorf("taken again: %v", again)
	}
}

func TestPoolsBesideWrongLedgers(t *testing.T) {
	for _, l := range wrongLedgers() {
		for _, p := range append(rightPools(), wrongPools()[:40]...) {
			if got := impl.PoolTake(p, l); len(got) != 0 {
				t.Errorf("PoolTake(%v, %v) = %v, want nothing", p, l, got)
			}
			if got := impl.PoolDrop(p, l); !slices.Equal(got, p) {
				t.Errorf("PoolDrop(%v, %v) = %v, want it as it was", p, l, got)
			}
		}
	}
}

func TestPoolDrop(t *testing.T) {
	l := ledgerOf([]int{40, 160, 0, 200}, []int{2, 1, 99, 100})
	next, early := impl.Tx{From: 0, Nonce: 2, Amount: 5}, impl.Tx{From: 0, Nonce: 3}
	poor, last := impl.Tx{From: 1, Nonce: 1, Amount: 1000}, impl.Tx{From: 2, Nonce: 99}
	cases := []struct {
		name string
		p    []impl.Tx
		want []impl.Tx
	}{
		{"none of none", nil, nil},
		{"none of an empty list", []impl.Tx{}, nil},
		{"no old one", []impl.Tx{next, early, poor, last}, []impl.Tx{next, early, poor, last}},
		{"old ones first", []impl.Tx{{From: 0}, {From: 0, Nonce: 1}, next, last}, []impl.Tx{next, last}},
		{"old ones between", []impl.Tx{next, {From: 1}, poor, {From: 2, Nonce: 98}, last}, []impl.Tx{next, poor, last}},
		{"old ones last", []impl.Tx{next, last, {From: 3}, {From: 3, Nonce: 99}}, []impl.Tx{next, last}},
		{"all are old", []impl.Tx{{From: 0}, {From: 1}, {From: 2}, {From: 3}, {From: 3, Nonce: 99}}, nil},
		{"each asked of the ledger itself", []impl.Tx{next, {From: 0, Nonce: 2, Amount: 6}, early, next}, []impl.Tx{next, {From: 0, Nonce: 2, Amount: 6}, early, next}},
		{"out of order", []impl.Tx{last, early, {From: 0, Nonce: 1}, next}, []impl.Tx{last, early, next}},
		{"what is not TxOk stays", []impl.Tx{{From: -1}, {From: 0, Nonce: -1}, {From: 0, Amount: -1}, {From: 0, To: 4}, {From: 0}, {From: 3, Nonce: 100}}, []impl.Tx{{From: -1}, {From: 0, Nonce: -1}, {From: 0, Amount: -1}, {From: 0, To: 4}, {From: 3, Nonce: 100}}},
		{"more than a pool holds", slices.Repeat([]impl.Tx{next, {From: 3}}, 30), slices.Repeat([]impl.Tx{next}, 30)},
	}
	for _, c := range cases {
		if got := impl.PoolDrop(c.p, l); !slices.Equal(got, c.want) {
			t.Errorf("%s: PoolDrop = %v, want %v", c.name, got, c.want)
		}
	}
	full := ledgerOf([]int{300, 350, 400, 0}, []int{7, 0, 99, 0})
	if got := impl.PoolDrop([]impl.Tx{{From: 0, To: 1, Amount: 51, Nonce: 7}}, full); len(got) != 1 {
		t.Errorf("one whose receiver would have too much is dropped: %v", got)
	}
}

func TestPoolDropAsTheWordsSay(t *testing.T) {
	dropped := 0
	for _, l := range append(rightLedgers(), wrongLedgers()[:12]...) {
		for _, p := range append(allPools(), mixedPools(l)...) {
			var want []impl.Tx
			for _, x := range p {
				if _, code := payByWords(l, x); code != impl.PyOld {
					want = append(want, x)
				}
			}
			got := impl.PoolDrop(p, l)
			if !slices.Equal(got, want) {
				t.Fatalf("PoolDrop(%v, %v) = %v, want %v", p, l, got, want)
			}
			if impl.PoolOk(p) && !impl.PoolOk(got) {
				t.Fatalf("PoolDrop(%v, %v) = %v, which is no pool", p, l, got)
			}
			dropped += len(p) - len(got)
		}
	}
	if dropped == 0 {
		t.Error("nothing was dropped")
	}
}

// poolWithRoom is p with room behind it, in which every write is seen.
func poolWithRoom(p []impl.Tx) ([]impl.Tx, []impl.Tx) {
	whole := slices.Concat(p, []impl.Tx{{From: 901}, {To: 902}, {Amount: 903}, {Nonce: 904}})
	return whole[:len(p)], whole
}

func spoilTxs(list []impl.Tx) {
	for i := range list[:cap(list)] {
		list[:cap(list)][i] = impl.Tx{From: -777, To: -777, Amount: -777, Nonce: -777}
	}
}

func TestPoolsAreNewMemory(t *testing.T) {
	added := slices.Concat(sampleTxs(), fullPool()[:2], []impl.Tx{{From: -1}, {From: 1, Nonce: 20}})
	for _, p := range slices.Concat(rightPools(), wrongPools()[:60], shortPools()[:80]) {
		for _, x := range added {
			given, whole := poolWithRoom(p)
			before := slices.Clone(whole)
			got, _ := impl.PoolAdd(given, x)
			if !slices.Equal(whole, before) {
				t.Fatalf("PoolAdd(%v, %v) wrote into its argument: %v", p, x, whole)
			}
			spoilTxs(got)
			if !slices.Equal(whole, before) {
				t.Fatalf("PoolAdd(%v, %v) shares memory with its argument", p, x)
			}
		}
		for _, l := range append(rightLedgers(), wrongLedgers()[:8]...) {
			checkPoolMemory(t, p, l)
		}
	}
}

func checkPoolMemory(t *testing.T, p []impl.Tx, l impl.Ledger) {
	t.Helper()
	given, whole := poolWithRoom(p)
	ledger, numbers := withRoom(l)
	before, numbersBefore := slices.Clone(whole), slices.Clone(numbers)
	impl.PoolOk(given)
	taken := impl.PoolTake(given, ledger)
	left := impl.PoolDrop(given, ledger)
	if !slices.Equal(whole, before) || !slices.Equal(numbers, numbersBefore) {
		t.Fatalf("an argument was written into at %v, %v: %v, %v", p, l, whole, numbers)
	}
	spoilTxs(taken)
	spoilTxs(left)
	if !slices.Equal(whole, before) {
		t.Fatalf("an answer at %v, %v shares memory with its argument", p, l)
	}
}
