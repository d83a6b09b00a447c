package tests

import (
	"math"
	"slices"
	"strings"
	"testing"

	"loop.example/g00448/impl"
)

func sampleTxs() []impl.Tx {
	return []impl.Tx{
		{},
		{From: 1, To: 2, Amount: 30, Nonce: 4},
		{From: 2, To: 2, Amount: 7, Nonce: 10},
		{From: 3, To: 0, Amount: 999, Nonce: 98},
		{From: 3, To: 3, Amount: 1000, Nonce: 99},
		{From: 0, To: 3, Amount: 100, Nonce: 0},
		{From: 3, To: 0, Amount: 0, Nonce: 99},
	}
}

// wrongTxs has, of each field, what is not in its range, all else being right.
func wrongTxs() []impl.Tx {
	var out []impl.Tx
	for _, n := range []int{-1, 4, -4, 256, 1 << 32, math.MinInt, math.MaxInt} {
		out = append(out, impl.Tx{From: n, To: 1, Amount: 1, Nonce: 1}, impl.Tx{From: 1, To: n, Amount: 1, Nonce: 1})
	}
	for _, n := range []int{-1, 1001, -1000, 1 << 32, math.MinInt, math.MaxInt} {
		out = append(out, impl.Tx{From: 1, To: 2, Amount: n, Nonce: 1})
	}
	for _, n := range []int{-1, 100, -99, 1 << 32, math.MinInt, math.MaxInt} {
		out = append(out, impl.Tx{From: 1, To: 2, Amount: 1, Nonce: n})
	}
	return append(out, impl.Tx{From: -1, To: 4, Amount: -1, Nonce: 100})
}

func TestPaymentLimits(t *testing.T) {
	if impl.Accounts != 4 || impl.MaxAmount != 1000 || impl.MaxNonce != 99 {
		t.Error(impl.Accounts, impl.MaxAmount, impl.MaxNonce)
	}
}

func TestTxOk(t *testing.T) {
	for _, x := range sampleTxs() {
		if !impl.TxOk(x) {
			t.Errorf("TxOk(%v) is false", x)
		}
	}
	for _, x := range wrongTxs() {
		if impl.TxOk(x) {
			t.Errorf("TxOk(%v) is true", x)
		}
	}
	for n := -3; n <= 1003; n++ {
		if got := impl.TxOk(impl.Tx{From: n}); got != (n >= 0 && n <= 3) {
			t.Errorf("From %d: %v", n, got)
		}
		if got := impl.TxOk(impl.Tx{To: n}); got != (n >= 0 && n <= 3) {
			t.Errorf("To %d: %v", n, got)
		}
		if got := impl.TxOk(impl.Tx{Amount: n}); got != (n >= 0 && n <= 1000) {
			t.Errorf("Amount %d: %v", n, got)
		}
		if got := impl.TxOk(impl.Tx{Nonce: n}); got != (n >= 0 && n <= 99) {
			t.Errorf("Nonce %d: %v", n, got)
		}
	}
}

func TestTxText(t *testing.T) {
	cases := []struct {
		x    impl.Tx
		want string
	}{
		{impl.Tx{}, "0>0:0#0"},
		{impl.Tx{From: 1, To: 2, Amount: 30, Nonce: 4}, "1>2:30#4"},
		{impl.Tx{From: 3, To: 0, Amount: 999, Nonce: 98}, "3>0:999#98"},
		{impl.Tx{From: 3, To: 3, Amount: 1000, Nonce: 99}, "3>3:1000#99"},
		{impl.Tx{From: 0, To: 1, Amount: 10, Nonce: 10}, "0>1:10#10"},
	}
	for _, c := range cases {
		if got := impl.TxText(c.x); got != c.want {
			t.Errorf("TxText(%v) = %q, want %q", c.x, got, c.want)
		}
	}
	for _, x := range wrongTxs() {
		if got := impl.TxText(x); got != "" {
			t.Errorf("TxText(%v) = %q, want nothing", x, got)
		}
	}
}

func TestTxOfReadsWhatTxTextTells(t *testing.T) {
	for from := range impl.Accounts {
		for to := range impl.Accounts {
			for amount := 0; amount <= impl.MaxAmount; amount++ {
				checkTxOf(t, impl.Tx{From: from, To: to, Amount: amount, Nonce: amount % (impl.MaxNonce + 1)})
			}
			for nonce := 0; nonce <= impl.MaxNonce; nonce++ {
				checkTxOf(t, impl.Tx{From: from, To: to, Amount: impl.MaxAmount - nonce, Nonce: nonce})
			}
		}
	}
}

func checkTxOf(t *testing.T, x impl.Tx) {
	t.Helper()
	if got, ok := impl.TxOf(impl.TxText(x)); got != x || !ok {
		t.Fatalf("TxOf(%q) = %v, %v", impl.TxText(x), got, ok)
	}
}

// unreadTxs has texts of which none is TxText of a payment.
func unreadTxs() []string {
	return []string{
		"",
		// noughts ahead
		"01>2:30#4", "1>02:30#4", "1>2:030#4", "1>2:30#04", "00>0:0#0", "0>00:0#0", "0>0:00#0", "0>0:0#00",
		"0001>2:30#4", "1>0002:30#4", "1>2:0030#4", "1>2:0000001#4", "1>2:30#0000004", "01>02:030#04",
		// signs of a number
		"+1>2:30#4", "1>+2:30#4", "1>2:+30#4", "1>2:30#+4", "-1>2:30#4", "1>-2:30#4", "1>2:-30#4", "1>2:30#-4",
		"-0>2:30#4", "1>-0:30#4", "1>2:-0#4", "1>2:30#-0", "1>2:3_0#4", "1>2:3e1#4", "1>2:0x1#4", "1>2:3.0#4",
		// blanks
		" ", " 1>2:30#4", "1>2:30#4 ", "1 >2:30#4", "1> 2:30#4", "1>2 :30#4", "1>2: 30#4", "1>2:30 #4", "1>2:30# 4",
		"1>2:3 0#4", "1>2:30#4\n", "\t1>2:30#4", "1>2:30#4\x00", "1>2\x00:30#4",
		// a mark too much
		"1>>2:30#4", "1>2::30#4", "1>2:30##4", ">1>2:30#4", "1>2:30#4#", "1>2:30#4>", "1>2:30#4:", "1>2>3:30#4",
		"1>2:30:4#5", "1>2:30#4#5", "#1>2:30#4", ":1>2:30#4",
		// a mark too few
		"1", "12:30#4", "1>230#4", "1>2:304", "1>2", "1>2:30", "2:30#4", "30#4", "1>#4", "1>2#4", "1:30#4",
		// another mark
		"1<2:30#4", "1-2:30#4", "1>2;30#4", "1>2,30#4", "1>2:30=4", "1>2:30/4", "1:2>30#4", "1>2#30:4", "1#2:30>4",
		"1>2>30>4", "1:2:30:4", "1#2#30#4", "1＞2:30#4",
		// a number that is missing
		">2:30#4", "1>:30#4", "1>2:#4", "1>2:30#", ">:#", ">", ":", "#", "1>:#", "0>:0#0",
		// a number above its limit
		"4>2:30#4", "1>4:30#4", "1>2:1001#4", "1>2:30#100", "10>2:30#4", "1>10:30#4", "1>2:10000#4", "1>2:999999#4",
		"1>2:1000000#4", "1>2:30#999999", "1>2:18446744073709551617#4", "9223372036854775808>2:30#4",
		// no UTF-8, and digits of another kind
		"\xff", "1>2:30#4\xff", "\xff1>2:30#4", "1\xff>2:30#4", "1>\xff:30#4", "1>2:\xc3#4", "1>2:30#\x80", "1\xe2\x82>2:30#4",
		"1\xbe2:30#4", "1>2\xba30#4", "1>2:30\xa34", "١>2:30#4", "1>2:３0#4", "1\xc0\xbe2:30#4",
		// something else about it
		"a", "a1>2:30#4", "1>2:30#4a", "(1>2:30#4)", "1>2:30#4,", ",1>2:30#4", "1>2:30#4,1>2:30#5", "1>2:30#41>2:30#4",
		"/1|1>2:30#4",
	}
}

func TestTxOfRefuses(t *testing.T) {
	for _, s := range append(unreadTxs(), strings.Repeat("1>2:30#4", 1000), strings.Repeat("9", 5000)+">2:3#4") {
		if x, ok := impl.TxOf(s); x != (impl.Tx{}) || ok {
			t.Errorf("TxOf(%q) = %v, %v, want nothing and false", s, x, ok)
		}
	}
}

// TestTxOfOfTextsNearby holds TxOf against TxText at every text that one byte
// put in, left away or turned makes of a right one.
func TestTxOfOfTextsNearby(t *testing.T) {
	for _, x := range sampleTxs() {
		s := impl.TxText(x)
		for at := 0; at <= len(s); at++ {
			for b := range 256 {
				sign := string([]byte{byte(b)})
				checkTxText(t, s[:at]+sign+s[at:])
				if at < len(s) {
					checkTxText(t, s[:at]+sign+s[at+1:])
				}
			}
			checkTxText(t, s[:at])
			checkTxText(t, s[at:])
			if at < len(s) {
				checkTxText(t, s[:at]+s[at+1:])
			}
		}
	}
}

func checkTxText(t *testing.T, s string) {
	t.Helper()
	x, ok := impl.TxOf(s)
	if ok != readsAsTx(s) {
		t.Fatalf("TxOf(%q) = %v, %v", s, x, ok)
	}
	if ok && impl.TxText(x) != s || !ok && x != (impl.Tx{}) {
		t.Fatalf("TxOf(%q) = %v, %v", s, x, ok)
	}
}

// readsAsTx says it another way: between its marks stand the digits of numbers
// in range.
func readsAsTx(s string) bool {
	from, rest, a := strings.Cut(s, ">")
	to, rest, b := strings.Cut(rest, ":")
	amount, nonce, c := strings.Cut(rest, "#")
	return a && b && c && digitsUpTo(from, 3) && digitsUpTo(to, 3) && digitsUpTo(amount, 1000) && digitsUpTo(nonce, 99)
}

func digitsUpTo(s string, greatest int) bool {
	for n := 0; n <= greatest; n++ {
		if impl.Digits(n) == s {
			return true
		}
	}
	return false
}

func TestTxsText(t *testing.T) {
	a, b := impl.Tx{From: 1, To: 2, Amount: 30, Nonce: 4}, impl.Tx{From: 3, To: 3, Amount: 1000, Nonce: 99}
	cases := []struct {
		list []impl.Tx
		want string
	}{
		{nil, ""}, {[]impl.Tx{}, ""},
		{[]impl.Tx{{}}, "0>0:0#0"},
		{[]impl.Tx{a}, "1>2:30#4"},
		{[]impl.Tx{a, b}, "1>2:30#4,3>3:1000#99"},
		{[]impl.Tx{b, a}, "3>3:1000#99,1>2:30#4"},
		{[]impl.Tx{a, a, {}}, "1>2:30#4,1>2:30#4,0>0:0#0"},
	}
	for _, c := range cases {
		if got := impl.TxsText(c.list); got != c.want {
			t.Errorf("TxsText(%v) = %q, want %q", c.list, got, c.want)
		}
	}
	for _, wrong := range wrongTxs() {
		for _, list := range [][]impl.Tx{{wrong}, {wrong, a}, {a, wrong}, {a, wrong, b}, {wrong, wrong}} {
			if got := impl.TxsText(list); got != "" {
				t.Errorf("TxsText(%v) = %q, want nothing", list, got)
			}
		}
	}
}

func TestTxsOfReadsWhatTxsTextTells(t *testing.T) {
	for _, s := range []string{"", impl.TxsText(nil)} {
		if list, ok := impl.TxsOf(s); len(list) != 0 || !ok {
			t.Errorf("TxsOf of the empty text = %v, %v", list, ok)
		}
	}
	all := sampleTxs()
	for from := range all {
		for to := from; to <= len(all); to++ {
			for range 2 {
				list := slices.Clone(all[from:to])
				slices.Reverse(all[from:to])
				if got, ok := impl.TxsOf(impl.TxsText(list)); !slices.Equal(got, list) || !ok {
					t.Errorf("TxsOf(%q) = %v, %v", impl.TxsText(list), got, ok)
				}
			}
		}
	}
	many := slices.Repeat(all, 100)
	if got, ok := impl.TxsOf(impl.TxsText(many)); !slices.Equal(got, many) || !ok {
		t.Errorf("TxsOf of %d payments = %d, %v", len(many), len(got), ok)
	}
}

func TestTxsOfRefuses(t *testing.T) {
	right := "1>2:30#4"
	wrong := []string{",", ",,", ",,,", "," + right, right + ",", right + ",," + right, "," + right + ",", right + "," + right + ",",
		right + ";" + right, right + " ," + right, right + ", " + right, right + right}
	for _, s := range unreadTxs() {
		// Some of these are lists; the empty text alone is one of none.
		if s != "" && !strings.Contains(s, ",") {
			wrong = append(wrong, s)
		}
		if !strings.Contains(s, ",") {
			wrong = append(wrong, s+","+right, right+","+s, right+","+s+","+right)
		}
	}
	for _, s := range wrong {
		if list, ok := impl.TxsOf(s); len(list) != 0 || ok {
			t.Errorf("TxsOf(%q) = %v, %v, want nothing and false", s, list, ok)
		}
	}
}

func TestPaymentsWriteIntoNoArgument(t *testing.T) {
	for _, x := range append(wrongTxs(), sampleTxs()...) {
		room := append(sampleTxs(), x, impl.Tx{From: 7}, impl.Tx{To: 8})
		before := slices.Clone(room)
		for n := range room {
			impl.TxsText(room[:n])
		}
		if !slices.Equal(room, before) {
			t.Errorf("%v became %v", before, room)
		}
	}
}

func TestPaymentsAreNewMemory(t *testing.T) {
	s := "1>2:30#4,3>3:1000#99"
	first, _ := impl.TxsOf(s)
	want := slices.Clone(first)
	second, _ := impl.TxsOf(s)
	clear(first[:cap(first)])
	if third, _ := impl.TxsOf(s); !slices.Equal(second, want) || !slices.Equal(third, want) {
		t.Errorf("two answers of TxsOf share memory: %v, %v", second, third)
	}
}
