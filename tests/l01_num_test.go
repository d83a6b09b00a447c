package tests

import (
	"bytes"
	"math"
	"slices"
	"strings"
	"testing"

	"loop.example/g00448/impl"
)

func TestDigits(t *testing.T) {
	cases := []struct {
		n    int
		want string
	}{
		{0, "0"}, {1, "1"}, {9, "9"}, {10, "10"}, {120, "120"}, {999999, "999999"},
		{-1, "-1"}, {-70, "-70"}, {-1000000, "-1000000"},
		{math.MaxInt, "9223372036854775807"}, {math.MinInt, "-9223372036854775808"},
	}
	for _, c := range cases {
		if got := impl.Digits(c.n); got != c.want {
			t.Errorf("Digits(%d) = %q, want %q", c.n, got, c.want)
		}
	}
}

func TestNumberReadsWhatDigitsWrites(t *testing.T) {
	for n := 0; n <= 999999; n++ {
		if got, ok := impl.Number(impl.Digits(n)); got != n || !ok {
			t.Fatalf("Number(Digits(%d)) = %d, %v", n, got, ok)
		}
	}
}

func TestNumberRefuses(t *testing.T) {
	wrong := []string{
		"", "1000000", "9999999", "9223372036854775807", "9223372036854775808", strings.Repeat("9", 400),
		"00", "01", "012", "000000", "0000001", "-0", "-1", "+0", "+1", "-", "+",
		" ", " 1", "1 ", "1\n", "1\x00", "1_0", "0x1", "1.0", "1e3", "a", "1a", "a1", "12/4", "12:4",
		"\xff", "1\xff", "٣",
	}
	for _, s := range wrong {
		if n, ok := impl.Number(s); n != 0 || ok {
			t.Errorf("Number(%q) = %d, %v, want 0, false", s, n, ok)
		}
	}
	for b := range 256 {
		if b >= '0' && b <= '9' {
			continue
		}
		for _, s := range []string{string([]byte{byte(b)}), string([]byte{'1', byte(b)}), string([]byte{byte(b), '1'}), string([]byte{'1', byte(b), '1'})} {
			if n, ok := impl.Number(s); n != 0 || ok {
				t.Errorf("Number(%q) = %d, %v, want 0, false", s, n, ok)
			}
		}
	}
}

func TestPutNum(t *testing.T) {
	cases := []struct {
		n    int
		want []byte
	}{
		{0, []byte{0}}, {1, []byte{1}}, {127, []byte{127}},
		{128, []byte{128, 1}}, {300, []byte{172, 2}}, {16383, []byte{255, 127}},
		{16384, []byte{128, 128, 1}}, {2097151, []byte{255, 255, 127}},
		{2097152, []byte{128, 128, 128, 1}}, {268435455, []byte{255, 255, 255, 127}},
		{268435456, []byte{128, 128, 128, 128, 1}}, {2147483647, []byte{255, 255, 255, 255, 7}},
	}
	for _, c := range cases {
		if got := impl.PutNum(c.n); !bytes.Equal(got, c.want) {
			t.Errorf("PutNum(%d) = %v, want %v", c.n, got, c.want)
		}
	}
	for _, n := range []int{-1, -128, math.MinInt, 2147483648, 4294967296, math.MaxInt} {
		if got := impl.PutNum(n); len(got) != 0 {
			t.Errorf("PutNum(%d) = %v, want nothing", n, got)
		}
	}
}

// sampleNumbers has every small number, and those about each power of 2.
func sampleNumbers() []int {
	var out []int
	for n := range 40000 {
		out = append(out, n)
	}
	for bit := 14; bit <= 31; bit++ {
		for d := -3; d <= 3; d++ {
			if n := 1<<bit + d; n <= 2147483647 {
				out = append(out, n)
			}
		}
	}
	return append(out, 1999999999)
}

func TestGetNumReadsWhatPutNumWrites(t *testing.T) {
	for _, n := range sampleNumbers() {
		put := impl.PutNum(n)
		for _, ahead := range [][]byte{nil, {0}, {128}, {255, 1, 200}} {
			for _, behind := range [][]byte{nil, {0}, {255, 255, 255}} {
				at, next := len(ahead), len(ahead)+len(put)
				got, place, ok := impl.GetNum(slices.Concat(ahead, put, behind), at)
				if got != n || place != next || !ok {
					t.Fatalf("GetNum of %d behind %v, ahead of %v = %d, %d, %v", n, ahead, behind, got, place, ok)
				}
			}
		}
	}
}

func TestGetNumRefuses(t *testing.T) {
	cases := []struct {
		name string
		b    []byte
		at   int
	}{
		{"nil", nil, 0},
		{"empty", []byte{}, 0},
		{"nil below 0", nil, -1},
		{"below 0", []byte{1, 2}, -1},
		{"least", []byte{1, 2}, math.MinInt},
		{"at the end", []byte{1, 2}, 2},
		{"beyond the end", []byte{1, 2}, 3},
		{"greatest", []byte{1, 2}, math.MaxInt},
		{"ends too soon", []byte{128}, 0},
		{"ends too soon in the middle", []byte{1, 200, 200}, 1},
		{"ends too soon after four", []byte{255, 255, 255, 255}, 0},
		{"0 in two", []byte{128, 0}, 0},
		{"1 in two", []byte{129, 0}, 0},
		{"127 in two", []byte{255, 0}, 0},
		{"300 in three", []byte{172, 130, 0}, 0},
		{"0 in five", []byte{128, 128, 128, 128, 0}, 0},
		{"0 in six", []byte{128, 128, 128, 128, 128, 0}, 0},
		{"greatest in six", []byte{255, 255, 255, 255, 135, 0}, 0},
		{"one above the greatest", []byte{128, 128, 128, 128, 8}, 0},
		{"32 bits", []byte{255, 255, 255, 255, 15}, 0},
		{"35 bits", []byte{255, 255, 255, 255, 127}, 0},
		{"36 bits", []byte{128, 128, 128, 128, 128, 1}, 0},
		{"64 bits", []byte{255, 255, 255, 255, 255, 255, 255, 255, 255, 1}, 0},
		{"no last byte", bytes.Repeat([]byte{128}, 100), 0},
	}
	for _, c := range cases {
		if n, next, ok := impl.GetNum(c.b, c.at); n != 0 || next != 0 || ok {
			t.Errorf("%s: GetNum = %d, %d, %v, want 0, 0, false", c.name, n, next, ok)
		}
	}
}

// TestGetNumOfEveryShortList holds GetNum against what the document says: what
// it reads is PutNum of a number, and where it reads none there is none.
func TestGetNumOfEveryShortList(t *testing.T) {
	signs := []byte{0, 1, 7, 8, 127, 128, 135, 136, 255}
	var walk func(b []byte, left int)
	walk = func(b []byte, left int) {
		checkGetNum(t, b)
		if left == 0 {
			return
		}
		for _, s := range signs {
			walk(append(b[:len(b):len(b)], s), left-1)
		}
	}
	walk(nil, 6)
}

func checkGetNum(t *testing.T, b []byte) {
	t.Helper()
	n, next, ok := impl.GetNum(b, 0)
	if ok && (next < 1 || next > len(b) || !bytes.Equal(impl.PutNum(n), b[:next])) {
		t.Fatalf("GetNum(%v) = %d, %d: this is not what PutNum writes", b, n, next)
	}
	if ok {
		return
	}
	if n != 0 || next != 0 {
		t.Fatalf("GetNum(%v) = %d, %d beside a false", b, n, next)
	}
	last := slices.IndexFunc(b, func(x byte) bool { return x < 128 })
	if last < 0 || last > 8 {
		return
	}
	value := 0
	for i := last; i >= 0; i-- {
		value = value*128 + int(b[i]&127)
	}
	if bytes.Equal(impl.PutNum(value), b[:last+1]) {
		t.Fatalf("GetNum(%v) is false, but these are PutNum(%d)", b, value)
	}
}

func sampleTexts() []string {
	return []string{
		"", "a", "ab", "\x00", "\xff\xfe", "a,b", "ä€", "line\n",
		strings.Repeat("x", 127), strings.Repeat("x", 128), strings.Repeat("yz", 150),
		strings.Repeat("\x80", 16383), strings.Repeat("\x80", 16384),
	}
}

func TestPutText(t *testing.T) {
	if got := impl.PutText(""); !bytes.Equal(got, []byte{0}) {
		t.Errorf("PutText of the empty text = %v", got)
	}
	if got := impl.PutText("ab"); !bytes.Equal(got, []byte{2, 'a', 'b'}) {
		t.Errorf("PutText(ab) = %v", got)
	}
	long := strings.Repeat("q", 300)
	if got := impl.PutText(long); string(got) != "\xac\x02"+long {
		t.Errorf("PutText of 300 bytes = %v", got)
	}
}

func TestPutTextIsItsLengthAndItsBytes(t *testing.T) {
	for _, s := range sampleTexts() {
		if got := impl.PutText(s); !bytes.Equal(got, slices.Concat(impl.PutNum(len(s)), []byte(s))) {
			t.Errorf("PutText of %d bytes = %d bytes", len(s), len(got))
		}
	}
}

func TestGetTextReadsWhatPutTextWrites(t *testing.T) {
	for _, s := range sampleTexts() {
		put := impl.PutText(s)
		for _, ahead := range [][]byte{nil, {5}, {255, 0, 128}} {
			for _, behind := range [][]byte{nil, {0}, {200, 7}} {
				at, next := len(ahead), len(ahead)+len(put)
				got, place, ok := impl.GetText(slices.Concat(ahead, put, behind), at)
				if got != s || place != next || !ok {
					t.Errorf("GetText of %d bytes at %d = %d bytes, %d, %v", len(s), at, len(got), place, ok)
				}
			}
		}
	}
}

func TestTextsOneBehindTheOther(t *testing.T) {
	var all []byte
	for _, s := range sampleTexts() {
		all = append(append(all, impl.PutText(s)...), impl.PutNum(len(s)*31)...)
	}
	at := 0
	for _, s := range sampleTexts() {
		got, next, ok := impl.GetText(all, at)
		if got != s || !ok {
			t.Fatalf("at %d: %d bytes, %v, want %d bytes", at, len(got), ok, len(s))
		}
		n, behind, ok := impl.GetNum(all, next)
		if n != len(s)*31 || !ok {
			t.Fatalf("at %d: %d, %v", next, n, ok)
		}
		at = behind
	}
	if at != len(all) {
		t.Errorf("read %d of %d bytes", at, len(all))
	}
}

func TestGetTextRefuses(t *testing.T) {
	cases := []struct {
		name string
		b    []byte
		at   int
	}{
		{"nil", nil, 0},
		{"below 0", []byte{1, 'a'}, -1},
		{"least", []byte{1, 'a'}, math.MinInt},
		{"at the end", []byte{1, 'a'}, 2},
		{"beyond the end", []byte{1, 'a'}, 3},
		{"greatest", []byte{1, 'a'}, math.MaxInt},
		{"one byte too few", []byte{2, 'a'}, 0},
		{"no bytes", []byte{1}, 0},
		{"too few in the middle", []byte{0, 3, 'a', 'b'}, 1},
		{"greatest length", []byte{255, 255, 255, 255, 7, 'a'}, 0},
		{"length above the greatest", []byte{128, 128, 128, 128, 8, 'a'}, 0},
		{"length ends too soon", []byte{129}, 0},
		{"empty, not the shortest", []byte{128, 0}, 0},
		{"one, not the shortest", []byte{129, 0, 'a'}, 0},
	}
	for _, c := range cases {
		if s, next, ok := impl.GetText(c.b, c.at); s != "" || next != 0 || ok {
			t.Errorf("%s: GetText = %q, %d, %v, want nothing, 0, false", c.name, s, next, ok)
		}
	}
}

func TestGetTextDoesNotReadBehindItsList(t *testing.T) {
	room := []byte{3, 'a', 'b', 'c'}
	if s, next, ok := impl.GetText(room[:3], 0); s != "" || next != 0 || ok {
		t.Errorf("GetText = %q, %d, %v: the spare room is not of the list", s, next, ok)
	}
	if n, next, ok := impl.GetNum([]byte{128, 1}[:1], 0); n != 0 || next != 0 || ok {
		t.Errorf("GetNum = %d, %d, %v: the spare room is not of the list", n, next, ok)
	}
}

func TestSplit(t *testing.T) {
	cases := []struct {
		s    string
		by   byte
		want []string
	}{
		{"", ',', []string{""}},
		{"", 0, []string{""}},
		{"abc", ',', []string{"abc"}},
		{",", ',', []string{"", ""}},
		{",,", ',', []string{"", "", ""}},
		{"a,b", ',', []string{"a", "b"}},
		{",a", ',', []string{"", "a"}},
		{"a,", ',', []string{"a", ""}},
		{"a,,b,", ',', []string{"a", "", "b", ""}},
		{",a,b,", ',', []string{"", "a", "b", ""}},
		{"a\x00b", 0, []string{"a", "b"}},
		{"a\xffb", 255, []string{"a", "b"}},
		{"ÿ", 255, []string{"ÿ"}},
		{"\xc3\xbf", 0xc3, []string{"", "\xbf"}},
		{"1>2:3#4", ':', []string{"1>2", "3#4"}},
	}
	for _, c := range cases {
		if got := impl.Split(c.s, c.by); !slices.Equal(got, c.want) {
			t.Errorf("Split(%q, %d) = %q, want %q", c.s, c.by, got, c.want)
		}
	}
}

func TestSplitPartsMakeTheTextAgain(t *testing.T) {
	signs := []string{"a", ",", "\xff", "\x00"}
	texts := []string{""}
	for range 6 {
		for _, s := range slices.Clone(texts) {
			for _, sign := range signs {
				texts = append(texts, s+sign)
			}
		}
		slices.Sort(texts)
		texts = slices.Compact(texts)
	}
	for _, s := range texts {
		for _, by := range []byte{',', 255, 0, 'z'} {
			sep := string([]byte{by})
			parts := impl.Split(s, by)
			if strings.Join(parts, sep) != s || len(parts) != strings.Count(s, sep)+1 {
				t.Fatalf("Split(%q, %d) = %q", s, by, parts)
			}
			for _, p := range parts {
				if strings.Contains(p, sep) {
					t.Fatalf("Split(%q, %d) = %q", s, by, parts)
				}
			}
		}
	}
}

func TestReadingWritesIntoNoArgument(t *testing.T) {
	lists := [][]byte{
		{}, {0}, {128}, {128, 0}, {172, 2}, {255, 255, 255, 255, 7}, {255, 255, 255, 255, 8},
		{2, 'a', 'b'}, {2, 'a'}, {129, 0, 'a'},
	}
	for _, list := range lists {
		room := append(slices.Clone(list), 90, 91, 92, 93, 94, 95, 96, 97)
		before := slices.Clone(room)
		for at := -1; at <= len(list)+1; at++ {
			impl.GetNum(room[:len(list)], at)
			impl.GetText(room[:len(list)], at)
		}
		if !bytes.Equal(room, before) {
			t.Errorf("%v became %v", before, room)
		}
	}
}

func TestAnswersAreNewMemory(t *testing.T) {
	b := impl.PutText("abc")
	s, _, _ := impl.GetText(b, 0)
	clear(b)
	if s != "abc" {
		t.Errorf("a text that was read became %q", s)
	}
	first, second := impl.PutNum(300), impl.PutNum(300)
	clear(first[:cap(first)])
	if !bytes.Equal(second, []byte{172, 2}) || !bytes.Equal(impl.PutNum(300), []byte{172, 2}) {
		t.Error("two answers of PutNum share memory")
	}
	parts := impl.Split("a,b", ',')
	parts[0] = "z"
	if again := impl.Split("a,b", ','); !slices.Equal(again, []string{"a", "b"}) {
		t.Errorf("two answers of Split share memory: %q", again)
	}
}
