package tests

import (
	"math"
	"slices"
	"testing"

	"loop.example/g00448/impl"
)

func ledgerOf(has, next []int) impl.Ledger { return impl.Ledger{Has: has, Next: next} }

func cloneLedger(l impl.Ledger) impl.Ledger {
	return ledgerOf(slices.Clone(l.Has), slices.Clone(l.Next))
}

func sameLedger(a, b impl.Ledger) bool {
	return slices.Equal(a.Has, b.Has) && slices.Equal(a.Next, b.Next)
}

func rightLedgers() []impl.Ledger {
	return []impl.Ledger{
		ledgerOf([]int{100, 100, 100, 100}, []int{0, 0, 0, 0}),
		ledgerOf([]int{0, 0, 0, 0}, []int{0, 0, 0, 0}),
		ledgerOf([]int{400, 400, 400, 400}, []int{100, 100, 100, 100}),
		ledgerOf([]int{40, 160, 0, 200}, []int{2, 1, 99, 100}),
		ledgerOf([]int{400, 0, 0, 0}, []int{98, 99, 100, 0}),
		ledgerOf([]int{1, 399, 400, 0}, []int{1, 0, 99, 50}),
		ledgerOf([]int{250, 250, 250, 250}, []int{3, 99, 0, 7}),
	}
}

// wrongLedgers has lists of each length but the right one, and, of each account,
// each number that is beyond its end, all else being right.
func wrongLedgers() []impl.Ledger {
	has, next := []int{40, 160, 0, 200}, []int{2, 1, 99, 100}
	out := []impl.Ledger{{}, ledgerOf([]int{}, []int{}), ledgerOf([]int{-1}, nil)}
	for _, n := range []int{0, 1, 2, 3, 5, 6, 8, 100} {
		list := make([]int, n)
		out = append(out, ledgerOf(list, next), ledgerOf(has, list), ledgerOf(list, slices.Clone(list)))
	}
	out = append(out, ledgerOf(nil, next), ledgerOf(has, nil))
	for i := range impl.Accounts {
		for _, n := range []int{-1, 401, -400, 500, 1 << 32, math.MinInt, math.MaxInt} {
			list := slices.Clone(has)
			list[i] = n
			out = append(out, ledgerOf(list, next))
		}
		for _, n := range []int{-1, 101, -100, 400, 1 << 32, math.MinInt, math.MaxInt} {
			list := slices.Clone(next)
			list[i] = n
			out = append(out, ledgerOf(has, list))
		}
	}
	return out
}

// ledgerTxs has payments about every edge of the right ledgers.
func ledgerTxs() []impl.Tx {
	var out []impl.Tx
	for from := range impl.Accounts {
		for to := range impl.Accounts {
			for _, amount := range []int{0, 1, 2, 40, 41, 99, 100, 101, 150, 151, 160, 161, 200, 201, 240, 241, 399, 400, 401, 999, 1000} {
				for _, nonce := range []int{0, 1, 2, 3, 4, 6, 7, 8, 49, 50, 51, 97, 98, 99} {
					out = append(out, impl.Tx{From: from, To: to, Amount: amount, Nonce: nonce})
				}
			}
		}
	}
	return out
}

// payByWords says it another way: line by line as the document does, with maps
// for lists.
func payByWords(l impl.Ledger, x impl.Tx) (impl.Ledger, int) {
	if !impl.LedgerOk(l) || !impl.TxOk(x) {
		return cloneLedger(l), impl.PyBad
	}
	has, next := map[int]int{}, map[int]int{}
	for i := range impl.Accounts {
		has[i], next[i] = l.Has[i], l.Next[i]
	}
	switch {
	case x.Nonce < next[x.From]:
		return cloneLedger(l), impl.PyOld
	case x.Nonce > next[x.From]:
		return cloneLedger(l), impl.PyEarly
	}
	next[x.From] = x.Nonce + 1
	code := impl.PyPoor
	if x.Amount <= has[x.From] {
		code = impl.PyDone
		if x.From != x.To {
			has[x.From], has[x.To] = has[x.From]-x.Amount, has[x.To]+x.Amount
		}
	}
	if has[x.To] > 400 {
		return cloneLedger(l), impl.PyBad
	}
	var out impl.Ledger
	for i := range impl.Accounts {
		out.Has, out.Next = append(out.Has, has[i]), append(out.Next, next[i])
	}
	return out, code
}

func TestLedgerConstants(t *testing.T) {
	if impl.Start != 100 {
		t.Error("Start", impl.Start)
	}
	codes := []int{impl.PyDone, impl.PyBad, impl.PyOld, impl.PyEarly, impl.PyPoor}
	if !slices.Equal(codes, []int{0, 1, 2, 3, 4}) {
		t.Error("codes", codes)
	}
}

func TestLedgerOk(t *testing.T) {
	for _, l := range rightLedgers() {
		if !impl.LedgerOk(l) {
			t.Errorf("LedgerOk(%v) is false", l)
		}
	}
	for _, l := range wrongLedgers() {
		if impl.LedgerOk(l) {
			t.Errorf("LedgerOk(%v) is true", l)
		}
	}
}

func TestLedgerOkAtEachNumberOfEachAccount(t *testing.T) {
	for i := range impl.Accounts {
		for n := -5; n <= 1005; n++ {
			l := impl.LedgerNew()
			l.Has[i] = n
			if got := impl.LedgerOk(l); got != (n >= 0 && n <= 400) {
				t.Errorf("Has %d of account %d: %v", n, i, got)
			}
			l = impl.LedgerNew()
			l.Next[i] = n
			if got := impl.LedgerOk(l); got != (n >= 0 && n <= 100) {
				t.Errorf("Next %d of account %d: %v", n, i, got)
			}
		}
	}
}

func TestLedgerOkDoesNotReadBehindItsLists(t *testing.T) {
	room := []int{1, 2, 3, 4, 5}
	for _, n := range []int{0, 3} {
		if impl.LedgerOk(ledgerOf(room[:n], room[:4])) || impl.LedgerOk(ledgerOf(room[:4], room[:n])) {
			t.Errorf("%d numbers: the spare room is not of the list", n)
		}
	}
	if !impl.LedgerOk(ledgerOf(room[:4], room[1:])) {
		t.Error("spare room makes a ledger wrong")
	}
	if !impl.LedgerOk(ledgerOf(append(room[:3:3], 400), []int{0, 0, 0, 0, -1}[:4])) {
		t.Error("what stands behind a list makes a ledger wrong")
	}
}

func TestLedgerNew(t *testing.T) {
	want := ledgerOf([]int{100, 100, 100, 100}, []int{0, 0, 0, 0})
	first, second := impl.LedgerNew(), impl.LedgerNew()
	if !sameLedger(first, want) || !impl.LedgerOk(first) || impl.Total(first) != 400 {
		t.Errorf("LedgerNew() = %v", first)
	}
	spoil(first)
	if !sameLedger(second, want) || !sameLedger(impl.LedgerNew(), want) {
		t.Errorf("two of LedgerNew share memory: %v, %v", second, impl.LedgerNew())
	}
}

// spoil writes into all that an answer holds, its spare room too.
func spoil(l impl.Ledger) {
	for _, list := range [][]int{l.Has, l.Next} {
		for i := range list[:cap(list)] {
			list[:cap(list)][i] = -777
		}
	}
}

func TestPayCodes(t *testing.T) {
	has, next := []int{40, 160, 0, 200}, []int{2, 1, 99, 100}
	cases := []struct {
		name      string
		x         impl.Tx
		code      int
		has, next []int
	}{
		{"done", impl.Tx{From: 0, To: 1, Amount: 30, Nonce: 2}, impl.PyDone, []int{10, 190, 0, 200}, []int{3, 1, 99, 100}},
		{"just what it has", impl.Tx{From: 0, To: 2, Amount: 40, Nonce: 2}, impl.PyDone, []int{0, 160, 40, 200}, []int{3, 1, 99, 100}},
		{"nothing", impl.Tx{From: 1, To: 3, Amount: 0, Nonce: 1}, impl.PyDone, has, []int{2, 2, 99, 100}},
		{"nothing of nothing", impl.Tx{From: 2, To: 3, Amount: 0, Nonce: 99}, impl.PyDone, has, []int{2, 1, 100, 100}},
		{"to itself", impl.Tx{From: 1, To: 1, Amount: 5, Nonce: 1}, impl.PyDone, has, []int{2, 2, 99, 100}},
		{"all to itself", impl.Tx{From: 1, To: 1, Amount: 160, Nonce: 1}, impl.PyDone, has, []int{2, 2, 99, 100}},
		{"more to itself", impl.Tx{From: 1, To: 1, Amount: 161, Nonce: 1}, impl.PyPoor, has, []int{2, 2, 99, 100}},
		{"to one whose numbers are used up", impl.Tx{From: 0, To: 3, Amount: 1, Nonce: 2}, impl.PyDone, []int{39, 160, 0, 201}, []int{3, 1, 99, 100}},
		{"one too much", impl.Tx{From: 0, To: 1, Amount: 41, Nonce: 2}, impl.PyPoor, has, []int{3, 1, 99, 100}},
		{"greatest amount", impl.Tx{From: 1, To: 0, Amount: 1000, Nonce: 1}, impl.PyPoor, has, []int{2, 2, 99, 100}},
		{"poor by the last number", impl.Tx{From: 2, To: 0, Amount: 1, Nonce: 99}, impl.PyPoor, has, []int{2, 1, 100, 100}},
		{"old", impl.Tx{From: 0, To: 1, Amount: 30, Nonce: 1}, impl.PyOld, has, next},
		{"old and poor", impl.Tx{From: 0, To: 1, Amount: 41, Nonce: 0}, impl.PyOld, has, next},
		{"used up, its last number", impl.Tx{From: 3, To: 0, Amount: 1, Nonce: 99}, impl.PyOld, has, next},
		{"used up, its first number", impl.Tx{From: 3, To: 0, Amount: 1, Nonce: 0}, impl.PyOld, has, next},
		{"used up, no such number", impl.Tx{From: 3, To: 0, Amount: 1, Nonce: 100}, impl.PyBad, has, next},
		{"early", impl.Tx{From: 0, To: 1, Amount: 30, Nonce: 3}, impl.PyEarly, has, next},
		{"early and poor", impl.Tx{From: 0, To: 1, Amount: 1000, Nonce: 99}, impl.PyEarly, has, next},
		{"early by the number of To", impl.Tx{From: 1, To: 0, Amount: 30, Nonce: 2}, impl.PyEarly, has, next},
		{"no From", impl.Tx{From: 4, To: 0}, impl.PyBad, has, next},
		{"no To", impl.Tx{From: 0, To: -1, Amount: 1, Nonce: 2}, impl.PyBad, has, next},
		{"no Amount, and old", impl.Tx{From: 0, To: 1, Amount: -1, Nonce: 0}, impl.PyBad, has, next},
		{"too great an Amount, and early", impl.Tx{From: 0, To: 1, Amount: 1001, Nonce: 3}, impl.PyBad, has, next},
		{"no Nonce", impl.Tx{From: 0, To: 1, Amount: 1, Nonce: -1}, impl.PyBad, has, next},
	}
	for _, c := range cases {
		got, code := impl.Pay(ledgerOf(has, next), c.x)
		if code != c.code || !sameLedger(got, ledgerOf(c.has, c.next)) {
			t.Errorf("%s: Pay = %v, %d, want %v %v, %d", c.name, got, code, c.has, c.next, c.code)
		}
	}
}

func TestPayWhatIsMoreThanALedgerMayHold(t *testing.T) {
	l := ledgerOf([]int{300, 350, 400, 0}, []int{7, 0, 99, 0})
	cases := []struct {
		name string
		x    impl.Tx
		code int
		has  []int
		next []int
	}{
		{"to the limit", impl.Tx{From: 0, To: 1, Amount: 50, Nonce: 7}, impl.PyDone, []int{250, 400, 400, 0}, []int{8, 0, 99, 0}},
		{"one beyond it", impl.Tx{From: 0, To: 1, Amount: 51, Nonce: 7}, impl.PyBad, l.Has, l.Next},
		{"all that it has", impl.Tx{From: 0, To: 2, Amount: 300, Nonce: 7}, impl.PyBad, l.Has, l.Next},
		{"one to a full one", impl.Tx{From: 0, To: 2, Amount: 1, Nonce: 7}, impl.PyBad, l.Has, l.Next},
		{"from a full one, one beyond it", impl.Tx{From: 2, To: 1, Amount: 51, Nonce: 99}, impl.PyBad, l.Has, l.Next},
		{"nothing to a full one", impl.Tx{From: 0, To: 2, Amount: 0, Nonce: 7}, impl.PyDone, l.Has, []int{8, 0, 99, 0}},
		{"a full one to itself", impl.Tx{From: 2, To: 2, Amount: 400, Nonce: 99}, impl.PyDone, l.Has, []int{7, 0, 100, 0}},
		{"poor to a full one", impl.Tx{From: 0, To: 2, Amount: 301, Nonce: 7}, impl.PyPoor, l.Has, []int{8, 0, 99, 0}},
		{"old to a full one", impl.Tx{From: 0, To: 2, Amount: 1, Nonce: 6}, impl.PyOld, l.Has, l.Next},
		{"early to a full one", impl.Tx{From: 0, To: 2, Amount: 1, Nonce: 8}, impl.PyEarly, l.Has, l.Next},
	}
	for _, c := range cases {
		got, code := impl.Pay(l, c.x)
		if code != c.code || !sameLedger(got, ledgerOf(c.has, c.next)) {
			t.Errorf("%s: Pay = %v, %d, want %v %v, %d", c.name, got, code, c.has, c.next, c.code)
		}
	}
}

func TestPayOfWrongLedgersAndPayments(t *testing.T) {
	for _, l := range wrongLedgers() {
		for _, x := range append(wrongTxs(), sampleTxs()...) {
			if got, code := impl.Pay(l, x); code != impl.PyBad || !sameLedger(got, l) {
				t.Errorf("Pay(%v, %v) = %v, %d, want it as it was, and PyBad", l, x, got, code)
			}
		}
	}
	for _, l := range rightLedgers() {
		for _, x := range wrongTxs() {
			if got, code := impl.Pay(l, x); code != impl.PyBad || !sameLedger(got, l) {
				t.Errorf("Pay(%v, %v) = %v, %d, want it as it was, and PyBad", l, x, got, code)
			}
		}
	}
}

func TestPayAsTheWordsSay(t *testing.T) {
	seen := map[int]int{}
	for _, l := range rightLedgers() {
		for _, x := range ledgerTxs() {
			got, code := impl.Pay(l, x)
			want, wantCode := payByWords(l, x)
			if code != wantCode || !sameLedger(got, want) {
				t.Fatalf("Pay(%v, %v) = %v, %d, want %v, %d", l, x, got, code, want, wantCode)
			}
			if !impl.LedgerOk(got) || impl.Total(got) != impl.Total(l) {
				t.Fatalf("Pay(%v, %v) = %v: it has %d, had %d", l, x, got, impl.Total(got), impl.Total(l))
			}
			seen[code]++
		}
	}
	for code := impl.PyDone; code <= impl.PyPoor; code++ {
		if seen[code] == 0 {
			t.Errorf("no payment was told %d", code)
		}
	}
}

func TestAPaymentCountsOnce(t *testing.T) {
	for _, l := range rightLedgers() {
		for _, x := range ledgerTxs() {
			once, code := impl.Pay(l, x)
			if code != impl.PyDone && code != impl.PyPoor {
				continue
			}
			if twice, again := impl.Pay(once, x); again != impl.PyOld || !sameLedger(twice, once) {
				t.Fatalf("%v a second time from %v on: %v, %d", x, once, twice, again)
			}
		}
	}
}

func TestNumbersAreUsedUp(t *testing.T) {
	l := impl.LedgerNew()
	for nonce := range impl.MaxNonce + 1 {
		want := impl.PyDone
		x := impl.Tx{From: 1, To: 2, Amount: 1, Nonce: nonce}
		if nonce%2 == 1 {
			x.Amount, want = impl.MaxAmount, impl.PyPoor
		}
		var code int
		if l, code = impl.Pay(l, x); code != want || l.Next[1] != nonce+1 {
			t.Fatalf("number %d: %v, %d", nonce, l, code)
		}
	}
	end := ledgerOf([]int{100, 50, 150, 100}, []int{0, 100, 0, 0})
	if !sameLedger(l, end) || !impl.LedgerOk(l) {
		t.Fatalf("all numbers used up: %v", l)
	}
	for nonce := range impl.MaxNonce + 1 {
		if got, code := impl.Pay(l, impl.Tx{From: 1, To: 2, Amount: 1, Nonce: nonce}); code != impl.PyOld || !sameLedger(got, end) {
			t.Errorf("number %d of a used up account: %v, %d", nonce, got, code)
		}
	}
	for _, nonce := range []int{impl.MaxNonce + 1, impl.MaxNonce + 2, math.MaxInt} {
		if got, code := impl.Pay(l, impl.Tx{From: 1, To: 2, Amount: 1, Nonce: nonce}); code != impl.PyBad || !sameLedger(got, end) {
			t.Errorf("number %d of a used up account: %v, %d", nonce, got, code)
		}
	}
	if got, code := impl.Pay(l, impl.Tx{From: 2, To: 1, Amount: 150}); code != impl.PyDone || !slices.Equal(got.Has, []int{100, 200, 0, 100}) {
		t.Errorf("a used up account is paid: %v, %d", got, code)
	}
}

func TestPayAll(t *testing.T) {
	l := impl.LedgerNew()
	for _, list := range [][]impl.Tx{nil, {}} {
		if got, codes := impl.PayAll(l, list); len(codes) != 0 || !sameLedger(got, l) {
			t.Errorf("PayAll of nothing = %v, %v", got, codes)
		}
	}
	list := []impl.Tx{
		{From: 0, To: 1, Amount: 100},
		{From: 0, To: 1, Amount: 1, Nonce: 1},
		{From: 0, To: 1, Amount: 100},
		{From: 1, To: 0, Amount: 200, Nonce: 1},
		{From: 1, To: 0, Amount: 200},
		{From: 0, To: 5, Nonce: 2},
		{From: 0, To: 3, Amount: 200, Nonce: 2},
	}
	want := []int{impl.PyDone, impl.PyPoor, impl.PyOld, impl.PyEarly, impl.PyDone, impl.PyBad, impl.PyDone}
	got, codes := impl.PayAll(l, list)
	if !slices.Equal(codes, want) || !sameLedger(got, ledgerOf([]int{0, 0, 100, 300}, []int{3, 1, 0, 0})) {
		t.Errorf("PayAll = %v, %v", got, codes)
	}
}

func TestPayAllOfWrongLedgers(t *testing.T) {
	for _, l := range wrongLedgers() {
		for n := range 4 {
			got, codes := impl.PayAll(l, make([]impl.Tx, n))
			if !slices.Equal(codes, slices.Repeat([]int{impl.PyBad}, n)) || !sameLedger(got, l) {
				t.Errorf("PayAll(%v) of %d = %v, %v", l, n, got, codes)
			}
		}
	}
}

func TestPayAllIsPayOfEach(t *testing.T) {
	all := slices.Concat(ledgerTxs(), wrongTxs())
	for _, l := range append(rightLedgers(), wrongLedgers()...) {
		for step := 1; step < 200; step += 7 {
			list := everyOther(all, step)
			want, wantCodes := cloneLedger(l), []int{}
			for _, x := range list {
				var code int
				want, code = impl.Pay(want, x)
				wantCodes = append(wantCodes, code)
			}
			if got, codes := impl.PayAll(l, list); !sameLedger(got, want) || !slices.Equal(codes, wantCodes) {
				t.Fatalf("PayAll(%v) of %d payments = %v, want %v", l, len(list), got, want)
			}
		}
	}
}

// everyOther takes payments from all over the list, at most 300, by that step.
func everyOther(all []impl.Tx, step int) []impl.Tx {
	var out []impl.Tx
	for i := range 300 {
		out = append(out, all[i*step*31%len(all)])
	}
	return out
}

// TestWhatAllHaveStays pays on and on from a new ledger: whatever is told, the
// sum stays, and no number of an account counts twice.
func TestWhatAllHaveStays(t *testing.T) {
	for seed := range 50 {
		l := impl.LedgerNew()
		counted := map[[2]int]bool{}
		for i := range 600 {
			n := (seed*7919 + i*i*31 + i*17) % 100003
			x := impl.Tx{From: n % 4, To: n / 4 % 4, Amount: n / 16 % 130}
			x.Nonce = l.Next[x.From] + n/7%3 - 1
			var code int
			l, code = impl.Pay(l, x)
			if impl.Total(l) != 400 || !impl.LedgerOk(l) {
				t.Fatalf("%v makes %v of it: %d", x, l, impl.Total(l))
			}
			if code != impl.PyDone && code != impl.PyPoor {
				continue
			}
			if key := [2]int{x.From, x.Nonce}; counted[key] {
				t.Fatalf("%v counts twice", x)
			} else {
				counted[key] = true
			}
		}
		if len(counted) != l.Next[0]+l.Next[1]+l.Next[2]+l.Next[3] || len(counted) < 100 {
			t.Errorf("%d payments counted, next numbers are %v", len(counted), l.Next)
		}
	}
}

func TestTotal(t *testing.T) {
	cases := []struct {
		l    impl.Ledger
		want int
	}{
		{impl.LedgerNew(), 400},
		{impl.Ledger{}, 0},
		{ledgerOf([]int{}, []int{1, 2, 3, 4}), 0},
		{ledgerOf([]int{7}, nil), 7},
		{ledgerOf([]int{40, 160, 0, 200}, []int{2, 1, 99, 100}), 400},
		{ledgerOf([]int{400, 400, 400, 400}, []int{0, 0, 0, 0}), 1600},
		{ledgerOf([]int{1, 2, 3, 4, 5, 6}, []int{9}), 21},
		{ledgerOf([]int{-1, -2, 10, -20}, []int{0, 0, 0, 0}), -13},
		{ledgerOf([]int{math.MaxInt}, nil), math.MaxInt},
		{ledgerOf([]int{math.MinInt}, nil), math.MinInt},
		{ledgerOf([]int{math.MaxInt, math.MinInt}, nil), -1},
		{ledgerOf([]int{math.MaxInt, 1}, nil), math.MinInt},
		{ledgerOf([]int{math.MinInt, -1}, nil), math.MaxInt},
		{ledgerOf([]int{math.MaxInt, math.MaxInt, 2}, nil), 0},
		{ledgerOf([]int{1, 2, 3, 4}[:2], []int{5}), 3},
	}
	for _, c := range cases {
		if got := impl.Total(c.l); got != c.want {
			t.Errorf("Total(%v) = %d, want %d", c.l, got, c.want)
		}
	}
}

// withRoom lays a ledger's two lists one behind the other into one list, with
// room behind each, in which every write is seen.
func withRoom(l impl.Ledger) (impl.Ledger, []int) {
	spare := []int{901, 902, 903, 904, 905, 906}
	whole := slices.Concat(l.Has, spare, l.Next, spare)
	from := len(l.Has) + len(spare)
	return ledgerOf(whole[:len(l.Has)], whole[from:from+len(l.Next)]), whole
}

func TestLedgersWriteIntoNoArgument(t *testing.T) {
	for _, l := range append(rightLedgers(), wrongLedgers()...) {
		given, whole := withRoom(l)
		before := slices.Clone(whole)
		txs := slices.Concat(sampleTxs(), wrongTxs(), everyOther(ledgerTxs(), 3))
		list, txsBefore := txs[:len(txs)-5], slices.Clone(txs)
		impl.LedgerOk(given)
		impl.Total(given)
		impl.PayAll(given, nil)
		impl.PayAll(given, list)
		for _, x := range list {
			impl.Pay(given, x)
		}
		if !slices.Equal(whole, before) || !slices.Equal(txs, txsBefore) {
			t.Errorf("an argument was written into at %v: %v", l, whole)
		}
	}
}

func TestLedgersAreNewMemory(t *testing.T) {
	txs := slices.Concat(sampleTxs(), wrongTxs(), everyOther(ledgerTxs(), 5))
	for _, l := range append(rightLedgers(), wrongLedgers()...) {
		for _, x := range txs {
			given, whole := withRoom(l)
			before := slices.Clone(whole)
			answer, _ := impl.Pay(given, x)
			checkNewMemory(t, answer, whole, before)
		}
		for _, list := range [][]impl.Tx{nil, {}, txs[:1], txs} {
			given, whole := withRoom(l)
			before := slices.Clone(whole)
			answer, codes := impl.PayAll(given, list)
			checkNewMemory(t, answer, whole, before)
			kept := slices.Clone(codes)
			spoil(answer)
			if !slices.Equal(codes, kept) {
				t.Fatalf("codes of PayAll(%v) share memory with its ledger", l)
			}
		}
	}
}

func checkNewMemory(t *testing.T, answer impl.Ledger, whole, before []int) {
	t.Helper()
	next := slices.Clone(answer.Next)
	spoil(impl.Ledger{Has: answer.Has})
	if !slices.Equal(answer.Next, next) {
		t.Fatalf("the lists of an answer share memory: %v", answer)
	}
	spoil(answer)
	if !slices.Equal(whole, before) {
		t.Fatalf("an answer shares memory with an argument: %v became %v", before, whole)
	}
}

// TestListsThatAreOne hands in a ledger whose two lists are the same memory.
func TestListsThatAreOne(t *testing.T) {
	one := []int{5, 6, 7, 8}
	got, code := impl.Pay(ledgerOf(one, one), impl.Tx{From: 0, To: 1, Amount: 2, Nonce: 5})
	if code != impl.PyDone || !sameLedger(got, ledgerOf([]int{3, 8, 7, 8}, []int{6, 6, 7, 8})) {
		t.Errorf("Pay = %v, %d", got, code)
	}
	for _, nonce := range []int{4, 6, -1} {
		got, _ = impl.Pay(ledgerOf(one, one), impl.Tx{Nonce: nonce})
		checkNewMemory(t, got, one, []int{5, 6, 7, 8})
	}
	short := []int{5, 6}
	got, _ = impl.Pay(ledgerOf(short, short), impl.Tx{})
	checkNewMemory(t, got, short, []int{5, 6})
}
