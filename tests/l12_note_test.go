package tests

import (
	"bytes"
	"encoding/binary"
	"fmt"
	"math"
	"slices"
	"strings"
	"testing"

	"loop.example/g00448/impl"
)

// numWritten is seven bits a byte, the low ones first; below 0 it is what the
// same bits are as a number without a sign, which no reader may take.
func numWritten(n int) []byte { return binary.AppendUvarint(nil, uint64(n)) }

func textWritten(s string) []byte { return append(numWritten(len(s)), s...) }

func numsWritten(list ...int) []byte {
	var out []byte
	for _, n := range list {
		out = append(out, numWritten(n)...)
	}
	return out
}

// qcWritten, safeWritten and noteWritten write as the document says, whether or
// not it is right what is written so.
func qcWritten(q impl.Qc) []byte {
	return slices.Concat(numWritten(q.View), textWritten(q.Name), numWritten(len(q.Who)), numsWritten(q.Who...))
}

func safeWritten(s impl.Safe) []byte {
	return slices.Concat(numsWritten(s.Voted, s.Lock), qcWritten(s.High), textWritten(s.Done))
}

func noteOf(safe []byte) []byte {
	return slices.Concat(numWritten(len(safe)), safe, []byte{10})
}

func noteWritten(s impl.Safe) []byte { return noteOf(safeWritten(s)) }

func notesWritten(list ...impl.Safe) []byte {
	var out []byte
	for _, s := range list {
		out = append(out, noteWritten(s)...)
	}
	return out
}

// numRead is the number that b begins with, and how many bytes it takes: none,
// where there is no number, or where it could be shorter.
func numRead(b []byte) (int, int) {
	n, used := binary.Uvarint(b)
	if used <= 0 || n > math.MaxInt32 || !bytes.Equal(numWritten(int(n)), b[:used]) {
		return 0, 0
	}
	return int(n), used
}

func textRead(b []byte) (string, int) {
	length, used := numRead(b)
	if used == 0 || length > len(b)-used {
		return "", 0
	}
	return string(b[used : used+length]), used + length
}

// qcRead takes what is written like a certificate, right or not.
func qcRead(b []byte) (impl.Qc, int) {
	view, one := numRead(b)
	name, two := textRead(b[one:])
	many, three := numRead(b[one+two:])
	if one == 0 || two == 0 || three == 0 || many > len(b) {
		return impl.Qc{}, 0
	}
	q, at := impl.Qc{View: view, Name: name}, one+two+three
	for range many {
		i, used := numRead(b[at:])
		if used == 0 {
			return impl.Qc{}, 0
		}
		q.Who, at = append(q.Who, i), at+used
	}
	return q, at
}

func qcOfByWords(c impl.Conf, b []byte, at int) (impl.Qc, int, bool) {
	if at < 0 || at > len(b) {
		return impl.Qc{}, 0, false
	}
	q, used := qcRead(b[at:])
	if used == 0 || !qcOkByWords(c, q) {
		return impl.Qc{}, 0, false
	}
	return q, at + used, true
}

func safeOfByWords(c impl.Conf, b []byte) (impl.Safe, bool) {
	voted, one := numRead(b)
	lock, two := numRead(b[one:])
	high, three := qcRead(b[one+two:])
	done, four := textRead(b[one+two+three:])
	s := safeOf(voted, lock, high, done)
	if one == 0 || two == 0 || three == 0 || four == 0 || one+two+three+four != len(b) || !safeOkByWords(c, s) {
		return impl.Safe{}, false
	}
	return s, true
}

func lastNoteByWords(c impl.Conf, b []byte) (impl.Safe, int) {
	last, at := impl.Safe{}, 0
	for {
		length, used := numRead(b[at:])
		end := at + used + length
		if used == 0 || end >= len(b) || b[end] != 10 {
			return last, at
		}
		s, ok := safeOfByWords(c, b[at+used:end])
		if !ok {
			return last, at
		}
		last, at = s, end+1
	}
}

// checkRead holds all that reads these bytes against the second reading; how
// many of the three read something.
func checkRead(t *testing.T, c impl.Conf, b []byte, places ...int) int {
	t.Helper()
	read := 0
	for _, at := range places {
		q, next, ok := impl.QcOf(c, b, at)
		wantQ, wantNext, want := qcOfByWords(c, b, at)
		if !sameQc(q, wantQ) || next != wantNext || ok != want {
			t.Fatalf("QcOf(%v, %q, %d) = %v, %d, %v, want %v, %d, %v", c, b, at, q, next, ok, wantQ, wantNext, want)
		}
		if ok {
			read++
		}
	}
	s, ok := impl.SafeOf(c, b)
	wantS, want := safeOfByWords(c, b)
	if !sameSafe(s, wantS) || ok != want {
		t.Fatalf("SafeOf(%v, %q) = %v, %v, want %v, %v", c, b, s, ok, wantS, want)
	}
	if ok {
		read++
	}
	last, used := impl.LastNote(c, b)
	wantLast, wantUsed := lastNoteByWords(c, b)
	if !sameSafe(last, wantLast) || used != wantUsed {
		t.Fatalf("LastNote(%v, %q) = %v, %d, want %v, %d", c, b, last, used, wantLast, wantUsed)
	}
	if used > 0 {
		read++
	}
	return read
}

// nearBytes has b cut at each place, with each byte left out, said twice, and
// turned into several others.
func nearBytes(b []byte) [][]byte {
	var out [][]byte
	for i := range b {
		out = append(out, b[:i:i], b[i:], slices.Concat(b[:i], b[i+1:]), slices.Concat(b[:i+1], b[i:]))
		for _, other := range []byte{0, 1, 2, 3, 9, 10, 11, '0', '1', '/', '|', 60, 61, 127, 128, 255, b[i] - 1, b[i] + 1, b[i] ^ 128} {
			if other != b[i] {
				out = append(out, slices.Concat(b[:i], []byte{other}, b[i+1:]))
			}
		}
	}
	return append(out, append(slices.Clone(b), 0), append(slices.Clone(b), 10), append(slices.Clone(b), b...))
}

// noteQcs has certificates that are QcOk of four, of just so many votes and of
// all, with names shorter and longer than 127 bytes.
func noteQcs() []impl.Qc {
	out := []impl.Qc{impl.QcFirst(), {Who: []int{}}}
	for _, name := range append(safeNames()[1:], rightNames()[1:]...) {
		view := viewByWords(name)
		out = append(out, qcOf(view, name, 0, 1, 2), qcOf(view, name, 0, 2, 3), qcOf(view, name, 1, 2, 3), qcOf(view, name, 0, 1, 2, 3))
	}
	return out
}

// fewSafes has a Safe with each field set alone and with all of them, and one
// whose bytes are more than 127.
func fewSafes() []impl.Safe {
	return []impl.Safe{
		safeOf(3, 1, qcOf(2, "/2|", 0, 1, 2), "/1|"),
		impl.SafeNew(),
		safeOf(10, 0, impl.QcFirst(), ""),
		safeOf(0, 10, impl.QcFirst(), ""),
		safeOf(0, 0, qcOf(10, "/10|", 0, 1, 2, 3), ""),
		safeOf(0, 0, impl.QcFirst(), "/3|0>1:5#0/4|"),
		safeOf(60, 60, qcOf(30, nameByWords(chainOf(viewsFrom(1, 30)...)), 1, 2, 3), nameByWords(chainOf(viewsFrom(1, 28)...))),
	}
}

func TestQcBytes(t *testing.T) {
	four, seven := impl.Conf{N: 4, Fan: 2}, impl.Conf{N: 7, Fan: 6}
	long := "/9|3>3:1000#99,3>3:1000#98/10|3>3:1000#97,3>3:1000#96/11|3>3:1000#95,3>3:1000#94/12|3>3:1000#93,3>3:1000#92/13|0>1:1#0,1>2:3#4/14|"
	cases := []struct {
		name string
		c    impl.Conf
		q    impl.Qc
		want string
	}{
		{"QcFirst", four, impl.QcFirst(), "\x00\x00\x00"},
		{"QcFirst with an empty list", four, impl.Qc{Who: []int{}}, "\x00\x00\x00"},
		{"just so many of four", four, qcOf(2, "/2|", 0, 1, 2), "\x02\x03/2|\x03\x00\x01\x02"},
		{"all of four", four, qcOf(2, "/2|", 0, 1, 2, 3), "\x02\x03/2|\x04\x00\x01\x02\x03"},
		{"just so many of seven", seven, qcOf(60, "/2|/60|", 0, 2, 3, 5, 6), "\x3c\x07/2|/60|\x05\x00\x02\x03\x05\x06"},
		{"all of seven", seven, qcOf(60, "/60|", 0, 1, 2, 3, 4, 5, 6), "\x3c\x04/60|\x07\x00\x01\x02\x03\x04\x05\x06"},
		{"with payments", four, qcOf(10, "/10|0>1:5#0", 1, 2, 3), "\x0a\x0b/10|0>1:5#0\x03\x01\x02\x03"},
		{"a name of more than 127 bytes", four, qcOf(14, long, 0, 1, 2), "\x0e\x82\x01" + long + "\x03\x00\x01\x02"},

		{"too few of four", four, qcOf(2, "/2|", 0, 1), ""},
		{"too few of seven", seven, qcOf(2, "/2|", 0, 1, 2, 3), ""},
		{"nobody", four, qcOf(2, "/2|"), ""},
		{"a View below its name's", four, qcOf(1, "/2|", 0, 1, 2), ""},
		{"a View above its name's", four, qcOf(3, "/2|", 0, 1, 2), ""},
		{"View 0", four, qcOf(0, "/2|", 0, 1, 2), ""},
		{"View -2", four, qcOf(-2, "/2|", 0, 1, 2), ""},
		{"the beginning with a View", four, qcOf(1, ""), ""},
		{"the beginning with votes", four, qcOf(0, "", 0, 1, 2), ""},
		{"Who in the wrong order", four, qcOf(2, "/2|", 0, 2, 1), ""},
		{"Who with one twice", four, qcOf(2, "/2|", 0, 1, 1), ""},
		{"Who with -1", four, qcOf(2, "/2|", -1, 0, 1), ""},
		{"Who with N", four, qcOf(2, "/2|", 0, 1, 4), ""},
		{"a name that is none", four, qcOf(2, "/2", 0, 1, 2), ""},
		{"a name above MaxView", four, qcOf(61, "/61|", 0, 1, 2), ""},
		{"QcFirst of the Conf zero", impl.Conf{}, impl.QcFirst(), ""},
		{"N one too few", impl.Conf{N: 3, Fan: 2}, qcOf(2, "/2|", 0, 1, 2), ""},
		{"N one too many", impl.Conf{N: 8, Fan: 2}, qcOf(2, "/2|", 0, 1, 2, 3, 4, 5, 6), ""},
		{"Fan one too few", impl.Conf{N: 4, Fan: 0}, qcOf(2, "/2|", 0, 1, 2), ""},
		{"Fan one too many", impl.Conf{N: 4, Fan: 7}, impl.QcFirst(), ""},
	}
	for _, k := range cases {
		if got := impl.QcBytes(k.c, k.q); string(got) != k.want {
			t.Errorf("%s: QcBytes = %q, want %q", k.name, got, k.want)
		}
	}
}

func TestQcBytesAsTheWordsSay(t *testing.T) {
	for _, c := range []impl.Conf{{N: 4, Fan: 2}, {N: 5, Fan: 1}, {N: 7, Fan: 6}, {N: 3, Fan: 2}, {}} {
		for _, q := range append(nearQcs(qcNames(), qcLists()), noteQcs()...) {
			var want []byte
			if qcOkByWords(c, q) {
				want = qcWritten(q)
			}
			if got := impl.QcBytes(c, q); !bytes.Equal(got, want) {
				t.Fatalf("QcBytes(%v, %v) = %q, want %q", c, q, got, want)
			}
		}
	}
	for _, c := range allConfs() {
		for _, q := range []impl.Qc{impl.QcFirst(), qcOf(2, "/2|", 0, 1, 2), qcOf(2, "/2|", 0, 1, 2, 3), qcOf(2, "/2|", 0, 1, 2, 3, 4)} {
			if got := impl.QcBytes(c, q); (len(got) > 0) != qcOkByWords(c, q) {
				t.Fatalf("QcBytes(%v, %v) = %q", c, q, got)
			}
		}
	}
}

// TestQcOfReadsWhatQcBytesWrites has it at 0 and behind other bytes, alone and
// with others behind it; cut at any place it is refused.
func TestQcOfReadsWhatQcBytesWrites(t *testing.T) {
	c := impl.Conf{N: 4, Fan: 2}
	for _, q := range noteQcs() {
		put := impl.QcBytes(c, q)
		for _, ahead := range [][]byte{nil, {0}, {128}, {255, 1, 200}, put, put[:len(put)-1]} {
			for _, behind := range [][]byte{nil, {0}, {3}, {255, 255, 255}, put} {
				at := len(ahead)
				got, next, ok := impl.QcOf(c, slices.Concat(ahead, put, behind), at)
				if !sameQc(got, q) || !impl.QcSame(got, q) || next != at+len(put) || !ok {
					t.Fatalf("QcOf of %v behind %q, ahead of %q = %v, %d, %v", q, ahead, behind, got, next, ok)
				}
			}
			for cut := range put {
				if got, next, ok := impl.QcOf(c, slices.Concat(ahead, put[:cut]), len(ahead)); !sameQc(got, impl.Qc{}) || next != 0 || ok {
					t.Fatalf("QcOf of %d bytes of %v = %v, %d, %v", cut, q, got, next, ok)
				}
			}
		}
	}
}

func TestQcOfAtEachConf(t *testing.T) {
	for _, c := range allConfs() {
		for n := 0; n <= 8; n++ {
			q := qcOf(2, "/2|", setOfBits(1<<n-1)...)
			b := qcWritten(q)
			got, next, ok := impl.QcOf(c, b, 0)
			if ok != qcOkByWords(c, q) || ok && (!sameQc(got, q) || next != len(b)) || !ok && (!sameQc(got, impl.Qc{}) || next != 0) {
				t.Fatalf("QcOf(%v, %q) = %v, %d, %v", c, b, got, next, ok)
			}
		}
		if got, next, ok := impl.QcOf(c, []byte{0, 0, 0}, 0); ok != confOkByWords(c) || ok && next != 3 || !ok && next != 0 || !sameQc(got, impl.Qc{}) {
			t.Fatalf("QcOf(%v) of QcFirst = %v, %d, %v", c, got, next, ok)
		}
	}
}

func TestQcOfRefuses(t *testing.T) {
	four := impl.Conf{N: 4, Fan: 2}
	right := "\x02\x03/2|\x03\x00\x01\x02"
	greatest := "\xff\xff\xff\xff\x07"
	below := string(numWritten(-1))
	cases := []struct {
		name string
		c    impl.Conf
		b    string
		at   int
	}{
		{"nothing", four, "", 0},
		{"nothing, at -1", four, "", -1},
		{"below 0", four, right, -1},
		{"the least place", four, right, math.MinInt},
		{"at the end", four, right, len(right)},
		{"behind the end", four, right, len(right) + 1},
		{"the greatest place", four, right, math.MaxInt},
		{"one byte too late", four, right, 1},
		{"the last byte", four, right, len(right) - 1},
		{"a Conf that is none", impl.Conf{}, right, 0},
		{"QcFirst of a Conf that is none", impl.Conf{N: 3, Fan: 2}, "\x00\x00\x00", 0},
		{"a Conf of more", impl.Conf{N: 5, Fan: 2}, right, 0},

		{"too few", four, "\x02\x03/2|\x02\x00\x01", 0},
		{"nobody", four, "\x02\x03/2|\x00", 0},
		{"a View below its name's", four, "\x01\x03/2|\x03\x00\x01\x02", 0},
		{"a View above its name's", four, "\x03\x03/2|\x03\x00\x01\x02", 0},
		{"View 0", four, "\x00\x03/2|\x03\x00\x01\x02", 0},
		{"the beginning with a View", four, "\x02\x00\x00", 0},
		{"the beginning with votes", four, "\x00\x00\x03\x00\x01\x02", 0},
		{"no name, a View and votes", four, "\x02\x00\x03\x00\x01\x02", 0},
		{"Who in the wrong order", four, "\x02\x03/2|\x03\x00\x02\x01", 0},
		{"Who with one twice", four, "\x02\x03/2|\x03\x00\x01\x01", 0},
		{"Who with N", four, "\x02\x03/2|\x03\x00\x01\x04", 0},
		{"Who with 300", four, "\x02\x03/2|\x03\x00\x01\xac\x02", 0},
		{"a name that is none", four, "\x02\x03/2/\x03\x00\x01\x02", 0},
		{"a name that is half a step", four, "\x02\x02/2\x03\x00\x01\x02", 0},
		{"a name of view 61", four, "\x3d\x04/61|\x03\x00\x01\x02", 0},
		{"the View of low bits alone", four, "\x82\x80\x80\x08\x03/2|\x03\x00\x01\x02", 0},

		{"a View that is not the shortest", four, "\x82\x00\x03/2|\x03\x00\x01\x02", 0},
		{"a length that is not the shortest", four, "\x02\x83\x00/2|\x03\x00\x01\x02", 0},
		{"many that is not the shortest", four, "\x02\x03/2|\x83\x00\x00\x01\x02", 0},
		{"a vote that is not the shortest", four, "\x02\x03/2|\x03\x80\x00\x01\x02", 0},
		{"the last vote is not the shortest", four, "\x02\x03/2|\x03\x00\x01\x82\x00", 0},
		{"QcFirst that is not the shortest", four, "\x00\x00\x80\x00", 0},

		{"one vote more than there are", four, "\x02\x03/2|\x04\x00\x01\x02", 0},
		{"many more than there are", four, "\x02\x03/2|\x7f\x00\x01\x02", 0},
		{"as many as there can be", four, "\x02\x03/2|" + greatest + "\x00\x01\x02", 0},
		{"as many as there can be, of nobody", four, "\x00\x00" + greatest, 0},
		{"more than there can be", four, "\x02\x03/2|\x80\x80\x80\x80\x08\x00\x01\x02", 0},
		{"fewer than none", four, "\x02\x03/2|" + below + "\x00\x01\x02", 0},
		{"fewer than none, of nobody", four, "\x00\x00" + below, 0},
		{"a View below 0", four, below + "\x03/2|\x03\x00\x01\x02", 0},
		{"a vote below 0", four, "\x02\x03/2|\x03" + below + "\x00\x01", 0},
		{"a name longer than the bytes", four, "\x02\x7f/2|\x03\x00\x01\x02", 0},
		{"a name as long as it can be", four, "\x02" + greatest + "/2|\x03\x00\x01\x02", 0},
		{"a name shorter than none", four, "\x02" + below + "/2|\x03\x00\x01\x02", 0},
		{"eight of seven", impl.Conf{N: 7, Fan: 2}, "\x02\x03/2|\x08\x00\x01\x02\x03\x04\x05\x06\x07", 0},
		{"eight of seven, the last one twice", impl.Conf{N: 7, Fan: 2}, "\x02\x03/2|\x08\x00\x01\x02\x03\x04\x05\x06\x06", 0},
	}
	for _, k := range cases {
		if q, next, ok := impl.QcOf(k.c, []byte(k.b), k.at); !sameQc(q, impl.Qc{}) || next != 0 || ok {
			t.Errorf("%s: QcOf = %v, %d, %v, want zero, 0, false", k.name, q, next, ok)
		}
		if _, _, ok := qcOfByWords(k.c, []byte(k.b), k.at); ok {
			t.Errorf("%s: the second reading is true", k.name)
		}
	}
	if _, _, ok := impl.QcOf(four, []byte(right), 0); !ok {
		t.Error("what all of these are near to is refused")
	}
	if q, next, ok := impl.QcOf(four, nil, 0); !sameQc(q, impl.Qc{}) || next != 0 || ok {
		t.Error("nil")
	}
}

// TestQcOfOfWhatIsWrittenSo has the bytes of certificates, right and wrong.
func TestQcOfOfWhatIsWrittenSo(t *testing.T) {
	c := impl.Conf{N: 4, Fan: 2}
	for _, q := range slices.Concat(nearQcs(qcNames(), qcLists()), wrongQcs(), rightQcs(c)) {
		checkRead(t, c, qcWritten(q), 0)
	}
	for _, name := range slices.Concat(rightNames(), wrongNames(), unsureNames()) {
		checkRead(t, c, qcWritten(qcOf(viewByWords(name), name, 0, 1, 2)), 0)
	}
}

func TestSafeBytes(t *testing.T) {
	four, seven := impl.Conf{N: 4, Fan: 2}, impl.Conf{N: 7, Fan: 6}
	first, two := impl.QcFirst(), qcOf(2, "/2|", 0, 1, 2)
	full := nameByWords(chainOf(viewsFrom(1, 30)...))
	cases := []struct {
		name string
		c    impl.Conf
		s    impl.Safe
		want string
	}{
		{"new", four, impl.SafeNew(), "\x00\x00\x00\x00\x00\x00"},
		{"zero", four, impl.Safe{}, "\x00\x00\x00\x00\x00\x00"},
		{"an empty list", seven, impl.Safe{High: impl.Qc{Who: []int{}}}, "\x00\x00\x00\x00\x00\x00"},
		{"Voted alone", four, safeOf(3, 0, first, ""), "\x03\x00\x00\x00\x00\x00"},
		{"Lock alone", four, safeOf(0, 3, first, ""), "\x00\x03\x00\x00\x00\x00"},
		{"High alone", four, safeOf(0, 0, two, ""), "\x00\x00\x02\x03/2|\x03\x00\x01\x02\x00"},
		{"Done alone", four, safeOf(0, 0, first, "/1|/2|"), "\x00\x00\x00\x00\x00\x06/1|/2|"},
		{"all", four, safeOf(5, 4, two, "/1|"), "\x05\x04\x02\x03/2|\x03\x00\x01\x02\x03/1|"},
		{"all at their limits", seven, safeOf(60, 60, qcOf(60, "/60|", 0, 1, 2, 3, 4, 5, 6), full), "\x3c\x3c\x3c\x04/60|\x07\x00\x01\x02\x03\x04\x05\x06" + string(textWritten(full))},

		{"Voted -1", four, safeOf(-1, 4, two, "/1|"), ""},
		{"Voted 61", four, safeOf(61, 4, two, "/1|"), ""},
		{"Lock -1", four, safeOf(5, -1, two, "/1|"), ""},
		{"Lock 61", four, safeOf(5, 61, two, "/1|"), ""},
		{"High of too few", four, safeOf(5, 4, qcOf(2, "/2|", 0, 1), "/1|"), ""},
		{"High of another View", four, safeOf(5, 4, qcOf(3, "/2|", 0, 1, 2), "/1|"), ""},
		{"Done that is no name", four, safeOf(5, 4, two, "/1"), ""},
		{"Done one step too high", four, safeOf(5, 4, two, full+"/31|"), ""},
		{"the Conf zero", impl.Conf{}, impl.SafeNew(), ""},
		{"N one too many", impl.Conf{N: 8, Fan: 2}, impl.SafeNew(), ""},
		{"Fan one too many", impl.Conf{N: 4, Fan: 7}, safeOf(5, 4, two, "/1|"), ""},
		{"a Conf of more", seven, safeOf(5, 4, two, "/1|"), ""},
	}
	for _, k := range cases {
		if got := impl.SafeBytes(k.c, k.s); string(got) != k.want {
			t.Errorf("%s: SafeBytes = %q, want %q", k.name, got, k.want)
		}
	}
}

// checkWritten holds what is written of s against the second reading, and reads
// it again.
func checkWritten(t *testing.T, c impl.Conf, s impl.Safe) {
	t.Helper()
	put, note := impl.SafeBytes(c, s), impl.NoteBytes(c, s)
	if !safeOkByWords(c, s) {
		if len(put) != 0 || len(note) != 0 {
			t.Fatalf("of %v, %v is written %q, noted %q", c, s, put, note)
		}
		return
	}
	if !bytes.Equal(put, safeWritten(s)) || !bytes.Equal(note, noteWritten(s)) {
		t.Fatalf("of %v, %v is written %q, noted %q", c, s, put, note)
	}
	if got, ok := impl.SafeOf(c, put); !ok || !sameSafe(got, s) || !impl.SafeSame(got, s) {
		t.Fatalf("SafeOf of what is written of %v = %v, %v", s, got, ok)
	}
	if got, used := impl.LastNote(c, note); used != len(note) || !sameSafe(got, s) || !impl.SafeSame(got, s) {
		t.Fatalf("LastNote of the note of %v = %v, %d", s, got, used)
	}
	if q, next, ok := impl.QcOf(c, put, 2); !ok || !sameQc(q, s.High) || next != 2+len(impl.QcBytes(c, s.High)) {
		t.Fatalf("High in what is written of %v = %v, %d, %v", s, q, next, ok)
	}
}

func TestASafeIsReadAsItWas(t *testing.T) {
	four := impl.Conf{N: 4, Fan: 2}
	for _, c := range []impl.Conf{four, {N: 5, Fan: 1}, {N: 6, Fan: 3}, {N: 7, Fan: 6}} {
		for _, s := range append(allSafes(c), fewSafes()...) {
			checkWritten(t, c, s)
		}
	}
	for view := -2; view <= 63; view++ {
		checkWritten(t, four, safeOf(view, 0, impl.QcFirst(), ""))
		checkWritten(t, four, safeOf(0, view, impl.QcFirst(), ""))
	}
	for _, q := range append(noteQcs(), wrongQcs()...) {
		checkWritten(t, four, safeOf(7, 5, q, "/1|"))
	}
	for _, name := range slices.Concat(rightNames(), wrongNames(), unsureNames()) {
		checkWritten(t, four, safeOf(7, 5, qcOf(2, "/2|", 1, 2, 3), name))
	}
	for _, c := range allConfs() {
		for _, s := range fewSafes() {
			checkWritten(t, c, s)
		}
	}
}

// TestSafeOfOfBytesMoreAndLess has one byte more, any that it is, and what is
// cut at each place.
func TestSafeOfOfBytesMoreAndLess(t *testing.T) {
	c := impl.Conf{N: 4, Fan: 2}
	refused := func(b []byte) {
		t.Helper()
		if s, ok := impl.SafeOf(c, b); ok || !sameSafe(s, impl.Safe{}) {
			t.Fatalf("SafeOf(%q) = %v, %v", b, s, ok)
		}
	}
	for _, s := range fewSafes() {
		put := impl.SafeBytes(c, s)
		for cut := range put {
			refused(put[:cut])
		}
		for more := range 256 {
			refused(append(slices.Clone(put), byte(more)))
		}
		refused(append([]byte{0}, put...))
		refused(append(slices.Clone(put), put...))
		refused(impl.NoteBytes(c, s))
	}
	refused(nil)
	refused([]byte{})
}

func TestSafeOfRefuses(t *testing.T) {
	four := impl.Conf{N: 4, Fan: 2}
	cases := []struct {
		name string
		c    impl.Conf
		b    string
	}{
		{"Voted 61", four, "\x3d\x04\x02\x03/2|\x03\x00\x01\x02\x03/1|"},
		{"Lock 61", four, "\x05\x3d\x02\x03/2|\x03\x00\x01\x02\x03/1|"},
		{"Voted of two bytes", four, "\x85\x01\x04\x02\x03/2|\x03\x00\x01\x02\x03/1|"},
		{"High of too few", four, "\x05\x04\x02\x03/2|\x02\x00\x01\x03/1|"},
		{"High of another View", four, "\x05\x04\x03\x03/2|\x03\x00\x01\x02\x03/1|"},
		{"High that is no set", four, "\x05\x04\x02\x03/2|\x03\x00\x02\x01\x03/1|"},
		{"High of no name", four, "\x05\x04\x02\x03/2/\x03\x00\x01\x02\x03/1|"},
		{"High left away", four, "\x05\x04\x03/1|"},
		{"High with a vote more than it tells", four, "\x05\x04\x02\x03/2|\x03\x00\x01\x02\x03\x03/1|"},
		{"High with a vote fewer than it tells", four, "\x05\x04\x02\x03/2|\x04\x00\x01\x02\x03/1|"},
		{"Done that is no name", four, "\x05\x04\x02\x03/2|\x03\x00\x01\x02\x03/1/"},
		{"Done of view 0", four, "\x05\x04\x02\x03/2|\x03\x00\x01\x02\x03/0|"},
		{"Done one byte too short", four, "\x05\x04\x02\x03/2|\x03\x00\x01\x02\x02/1|"},
		{"Done one byte too long", four, "\x05\x04\x02\x03/2|\x03\x00\x01\x02\x04/1|"},
		{"Done left away", four, "\x05\x04\x02\x03/2|\x03\x00\x01\x02"},
		{"Voted that is not the shortest", four, "\x85\x00\x04\x02\x03/2|\x03\x00\x01\x02\x03/1|"},
		{"Lock that is not the shortest", four, "\x05\x84\x00\x02\x03/2|\x03\x00\x01\x02\x03/1|"},
		{"Done of a length that is not the shortest", four, "\x05\x04\x02\x03/2|\x03\x00\x01\x02\x83\x00/1|"},
		{"an empty Done that is not the shortest", four, "\x05\x04\x02\x03/2|\x03\x00\x01\x02\x80\x00"},
		{"the Conf zero", impl.Conf{}, "\x00\x00\x00\x00\x00\x00"},
		{"a Conf that is none", impl.Conf{N: 4, Fan: 7}, "\x05\x04\x02\x03/2|\x03\x00\x01\x02\x03/1|"},
		{"a Conf of more", impl.Conf{N: 5, Fan: 2}, "\x05\x04\x02\x03/2|\x03\x00\x01\x02\x03/1|"},
	}
	for _, k := range cases {
		if s, ok := impl.SafeOf(k.c, []byte(k.b)); ok || !sameSafe(s, impl.Safe{}) {
			t.Errorf("%s: SafeOf = %v, %v, want zero, false", k.name, s, ok)
		}
	}
	if s, ok := impl.SafeOf(four, []byte("\x05\x04\x02\x03/2|\x03\x00\x01\x02\x03/1|")); !ok || !sameSafe(s, safeOf(5, 4, qcOf(2, "/2|", 0, 1, 2), "/1|")) {
		t.Error("what all of these are near to", s, ok)
	}
	for _, s := range wrongSafes() {
		if got, ok := impl.SafeOf(four, safeWritten(s)); ok || !sameSafe(got, impl.Safe{}) {
			t.Errorf("SafeOf of what is written of %v = %v, %v", s, got, ok)
		}
	}
}

func TestNoteBytes(t *testing.T) {
	four := impl.Conf{N: 4, Fan: 2}
	two := qcOf(2, "/2|", 0, 1, 2)
	long := "/9|3>3:1000#99,3>3:1000#98/10|3>3:1000#97,3>3:1000#96/11|3>3:1000#95,3>3:1000#94/12|3>3:1000#93,3>3:1000#92"
	cases := []struct {
		name string
		c    impl.Conf
		s    impl.Safe
		want string
	}{
		{"new", four, impl.SafeNew(), "\x06\x00\x00\x00\x00\x00\x00\n"},
		{"all", four, safeOf(5, 4, two, "/1|"), "\x0f\x05\x04\x02\x03/2|\x03\x00\x01\x02\x03/1|\n"},
		{"ten bytes", four, safeOf(10, 10, impl.QcFirst(), "/10|"), "\x0a\x0a\x0a\x00\x00\x00\x04/10|\n"},
		{"127 bytes", four, safeOf(1, 1, qcOf(10, "/2|/10|", 0, 2, 3), long+"/13|"), "\x7f\x01\x01\x0a\x07/2|/10|\x03\x00\x02\x03\x6f" + long + "/13|\n"},
		{"128 bytes", four, safeOf(1, 1, qcOf(10, "/2|/10|", 0, 1, 2, 3), long+"/13|"), "\x80\x01\x01\x01\x0a\x07/2|/10|\x04\x00\x01\x02\x03\x6f" + long + "/13|\n"},
		{"not SafeOk by Voted", four, safeOf(61, 4, two, "/1|"), ""},
		{"not SafeOk by Lock", four, safeOf(5, -1, two, "/1|"), ""},
		{"not SafeOk by High", four, safeOf(5, 4, qcOf(2, "/2|", 0, 1), "/1|"), ""},
		{"not SafeOk by Done", four, safeOf(5, 4, two, "/1"), ""},
		{"the Conf zero", impl.Conf{}, impl.SafeNew(), ""},
		{"a Conf of more", impl.Conf{N: 7, Fan: 2}, safeOf(5, 4, two, "/1|"), ""},
	}
	for _, k := range cases {
		if got := impl.NoteBytes(k.c, k.s); string(got) != k.want {
			t.Errorf("%s: NoteBytes = %q, want %q", k.name, got, k.want)
		}
	}
	for _, s := range fewSafes() {
		note, text := impl.NoteBytes(four, s), impl.SafeBytes(four, s)
		length, from, ok := impl.GetNum(note, 0)
		if !ok || length != len(text) || len(note) != from+length+1 || !bytes.Equal(note[from:from+length], text) || note[len(note)-1] != 10 {
			t.Errorf("NoteBytes(%v) = %q", s, note)
		}
	}
}

func TestLastNote(t *testing.T) {
	four := impl.Conf{N: 4, Fan: 2}
	none := impl.SafeNew()
	one, two, three := safeOf(1, 0, none.High, ""), safeOf(2, 1, qcOf(2, "/2|", 0, 1, 2), ""), safeOf(10, 10, qcOf(10, "/10|", 1, 2, 3), "/1|")
	a, b, c := string(impl.NoteBytes(four, one)), string(impl.NoteBytes(four, two)), string(impl.NoteBytes(four, three))
	of7 := string(impl.NoteBytes(impl.Conf{N: 7, Fan: 2}, safeOf(3, 1, qcOf(2, "/2|", 0, 1, 2, 3, 6), "")))
	new7 := string(impl.NoteBytes(impl.Conf{N: 7, Fan: 2}, one))
	cases := []struct {
		name string
		conf impl.Conf
		b    string
		want impl.Safe
		used int
	}{
		{"nothing", four, "", none, 0},
		{"one", four, a, one, len(a)},
		{"two", four, a + b, two, len(a + b)},
		{"three", four, a + b + c, three, len(a + b + c)},
		{"they need not go up", four, c + b + a, one, len(a + b + c)},
		{"the same one again", four, b + b + b, two, 3 * len(b)},
		{"a new one behind", four, c + string(impl.NoteBytes(four, none)), none, len(c) + 8},
		{"what is torn behind", four, a + b + c[:len(c)-1], two, len(a + b)},
		{"what is torn at first", four, a[:len(a)-1], none, 0},
		{"what is torn in between", four, a + b[:len(b)-1] + c, one, len(a)},
		{"foreign bytes behind", four, a + b + "\x00\xff", two, len(a + b)},
		{"a byte 10 behind", four, a + b + "\n", two, len(a + b)},
		{"a byte 10 twice", four, a + "\n" + b, one, len(a)},
		{"a byte ahead", four, "\x00" + a, none, 0},
		{"a byte 10 ahead", four, "\n" + a + b, none, 0},
		{"bytes 10 alone", four, "\n\n\n\n\n\n\n\n\n\n\n\n\n\n\n\n", none, 0},
		{"a Safe that is no note", four, string(impl.SafeBytes(four, two)), none, 0},
		{"another byte at the end", four, a[:len(a)-1] + "\x0b" + b, none, 0},
		{"no byte at the end", four, a + b[:len(b)-1] + "\x0d", one, len(a)},
		{"a length one too great", four, a + "\x07" + a[1:] + b, one, len(a)},
		{"a length one too small", four, a + "\x05" + a[1:] + b, one, len(a)},
		{"a length 0", four, a + "\x00\n", one, len(a)},
		{"a length 0 ahead of a whole one", four, "\x00\n" + a, none, 0},
		{"a length of more than the bytes", four, a + "\x7f" + a[1:], one, len(a)},
		{"the greatest length", four, a + "\xff\xff\xff\xff\x07" + a[1:], one, len(a)},
		{"a length that is none", four, a + "\x80\x80\x80\x80\x08" + a[1:], one, len(a)},
		{"a length that is not the shortest", four, a + "\x86\x00" + a[1:], one, len(a)},
		{"a length that counts the end too", four, a + "\x07" + a[1:], one, len(a)},
		{"a note in a note", four, a + string(noteOf([]byte(a))), one, len(a)},
		{"a Safe with a byte more, counted", four, a + string(noteOf([]byte(a[1:7]+"\x00"))), one, len(a)},
		{"a Safe with a byte less, counted", four, a + string(noteOf([]byte(a[1:6]))), one, len(a)},
		{"not SafeOk", four, a + string(noteWritten(safeOf(61, 1, two.High, ""))) + b, one, len(a)},
		{"not SafeOk at first", four, string(noteWritten(safeOf(1, 61, two.High, ""))) + a, none, 0},
		{"a note of another Conf", four, a + of7 + b, one, len(a)},
		{"a note of another Conf at first", four, of7, none, 0},
		{"a note of any Conf", four, a + new7 + b, two, len(a + new7 + b)},
		{"ours, of another Conf", impl.Conf{N: 7, Fan: 2}, a + of7 + b, safeOf(3, 1, qcOf(2, "/2|", 0, 1, 2, 3, 6), ""), len(a + of7)},
		{"another Fan", impl.Conf{N: 4, Fan: 6}, a + b + c, three, len(a + b + c)},
		{"the Conf zero", impl.Conf{}, a + b, none, 0},
		{"N one too few", impl.Conf{N: 3, Fan: 2}, a, none, 0},
		{"Fan one too many", impl.Conf{N: 4, Fan: 7}, a, none, 0},
	}
	for _, k := range cases {
		if got, used := impl.LastNote(k.conf, []byte(k.b)); !sameSafe(got, k.want) || used != k.used {
			t.Errorf("%s: LastNote = %v, %d, want %v, %d", k.name, got, used, k.want, k.used)
		}
		if got, used := lastNoteByWords(k.conf, []byte(k.b)); !sameSafe(got, k.want) || used != k.used {
			t.Errorf("%s: the second reading = %v, %d", k.name, got, used)
		}
	}
	if got, used := impl.LastNote(four, nil); !sameSafe(got, none) || used != 0 {
		t.Error("nil", got, used)
	}
}

// TestWhatIsTornIsLeftAway cuts notes at each place: those that are whole stay,
// and what is written behind them then is read as if nothing had been torn.
func TestWhatIsTornIsLeftAway(t *testing.T) {
	c := impl.Conf{N: 4, Fan: 2}
	again := safeOf(33, 32, qcOf(31, "/31|", 0, 1, 3), "/29|")
	for first := range fewSafes() {
		safes := append(fewSafes()[first:], fewSafes()[:first]...)
		var all []byte
		var ends []int
		for _, s := range safes {
			all = append(all, impl.NoteBytes(c, s)...)
			ends = append(ends, len(all))
		}
		for cut := range len(all) + 1 {
			want, used := impl.SafeNew(), 0
			for i, end := range ends {
				if end <= cut {
					want, used = safes[i], end
				}
			}
			got, end := impl.LastNote(c, all[:cut])
			if !sameSafe(got, want) || end != used {
				t.Fatalf("cut at %d: LastNote = %v, %d, want %v, %d", cut, got, end, want, used)
			}
			behind := append(slices.Clone(all[:end]), impl.NoteBytes(c, again)...)
			if got, end := impl.LastNote(c, behind); !sameSafe(got, again) || end != len(behind) {
				t.Fatalf("cut at %d, written behind: LastNote = %v, %d", cut, got, end)
			}
		}
	}
}

// TestABytesTurnStopsAtItsNote turns each byte of each of three notes into each
// other: what stands ahead of that note stays, whatever the byte made of it.
func TestABytesTurnStopsAtItsNote(t *testing.T) {
	c := impl.Conf{N: 4, Fan: 2}
	safes := []impl.Safe{safeOf(1, 0, impl.QcFirst(), ""), safeOf(3, 2, qcOf(3, "/2|/3|", 0, 1, 2), "/1|"), safeOf(4, 3, qcOf(4, "/4|", 1, 2, 3), "/1|/2|")}
	all := notesWritten(safes...)
	begin := 0
	for i, s := range safes {
		end := begin + len(noteWritten(s))
		ahead, used := impl.LastNote(c, all[:begin])
		if used != begin || i > 0 && !sameSafe(ahead, safes[i-1]) {
			t.Fatalf("ahead of note %d: %v, %d", i, ahead, used)
		}
		for at := begin; at < end; at++ {
			for other := range 256 {
				turned := slices.Clone(all)
				turned[at] = byte(other)
				got, used := impl.LastNote(c, turned)
				want, wantUsed := lastNoteByWords(c, turned)
				if !sameSafe(got, want) || used != wantUsed {
					t.Fatalf("%d at %d: LastNote = %v, %d, want %v, %d", other, at, got, used, want, wantUsed)
				}
				marks := at == begin || at == end-1
				if other != int(all[at]) && (used < begin || marks && (used != begin || !sameSafe(got, ahead))) {
					t.Fatalf("%d at %d, in note %d: LastNote = %v, %d", other, at, i, got, used)
				}
			}
		}
		begin = end
	}
}

// TestReadingAsTheWordsSay has bytes near to right ones, read from each place.
func TestReadingAsTheWordsSay(t *testing.T) {
	c := impl.Conf{N: 4, Fan: 2}
	read := 0
	for _, s := range fewSafes()[:6] {
		for _, b := range [][]byte{qcWritten(s.High), safeWritten(s), noteWritten(s), notesWritten(s, impl.SafeNew(), s)} {
			for _, near := range append(nearBytes(b), b) {
				places := append(viewsFrom(-2, len(near)+4), math.MinInt, math.MaxInt)
				read += checkRead(t, c, near, places...)
			}
		}
	}
	if read < 1000 {
		t.Errorf("only %d were read at all", read)
	}
	long := notesWritten(fewSafes()...)
	for _, near := range nearBytes(long) {
		checkRead(t, c, near, 0, len(long)/2)
	}
}

// TestReadingOfEveryShortList has all short lists of a few bytes: each that is
// read is written so, and each that is written so is read.
func TestReadingOfEveryShortList(t *testing.T) {
	c := impl.Conf{N: 4, Fan: 2}
	signs := []byte{0, 1, 6, 10, 61, 128}
	var walk func(b []byte, left int)
	walk = func(b []byte, left int) {
		checkRead(t, c, b, 0, 1)
		if left == 0 {
			return
		}
		for _, s := range signs {
			walk(append(b[:len(b):len(b)], s), left-1)
		}
	}
	walk(nil, 7)
	walk([]byte{6, 0, 0, 0}, 4)
}

// bytesWithRoom has bytes behind b that would go on with it.
func bytesWithRoom(b, behind []byte) ([]byte, []byte) {
	whole := slices.Concat(b, behind)
	return whole[:len(b)], whole
}

func spoilBytes(b []byte) {
	for i := range b[:cap(b)] {
		b[:cap(b)][i] = 0xee
	}
}

// TestWrittenBytesAreNewMemory calls each twice: the second answer has to stay,
// whatever happens to the first one and to the argument.
func TestWrittenBytesAreNewMemory(t *testing.T) {
	c := impl.Conf{N: 4, Fan: 2}
	for _, s := range slices.Concat(fewSafes(), rightSafes(c), wrongSafes()) {
		given, whole := safeWithRoom(s)
		before := slices.Clone(whole)
		writers := map[string]func() []byte{
			"QcBytes":   func() []byte { return impl.QcBytes(c, given.High) },
			"SafeBytes": func() []byte { return impl.SafeBytes(c, given) },
			"NoteBytes": func() []byte { return impl.NoteBytes(c, given) },
		}
		for name, write := range writers {
			got, again := write(), write()
			want := slices.Clone(got)
			spoilBytes(got)
			if !bytes.Equal(again, want) || !bytes.Equal(write(), want) {
				t.Fatalf("%s of %v: an answer shares memory with another one", name, s)
			}
			if !slices.Equal(whole, before) || !sameSafe(given, s) {
				t.Fatalf("%s of %v wrote into its argument", name, s)
			}
		}
	}
}

// TestReadSafesAreNewMemory hands in bytes with more of them behind their end,
// and turns all of these, and one answer, once it was read.
func TestReadSafesAreNewMemory(t *testing.T) {
	c := impl.Conf{N: 4, Fan: 2}
	for _, s := range append(fewSafes(), rightSafes(c)...) {
		text, note := safeWritten(s), noteWritten(s)
		for _, b := range [][]byte{text, note, append(slices.Clone(note), note...), note[:len(note)-1], text[:len(text)-1]} {
			for name, read := range map[string]func([]byte) impl.Safe{
				"QcOf":     func(b []byte) impl.Safe { q, _, _ := impl.QcOf(c, b, 2); return impl.Safe{High: q} },
				"SafeOf":   func(b []byte) impl.Safe { s, _ := impl.SafeOf(c, b); return s },
				"LastNote": func(b []byte) impl.Safe { s, _ := impl.LastNote(c, b); return s },
			} {
				given, whole := bytesWithRoom(b, note)
				before := slices.Clone(whole)
				got, again := read(given), read(given)
				if !bytes.Equal(whole, before) {
					t.Fatalf("%s of %q wrote into its argument", name, b)
				}
				want := cloneSafe(got)
				spoilInts(got.High.Who)
				spoilBytes(whole)
				if !sameSafe(again, want) {
					t.Fatalf("%s of %q: an answer changes with another one or with its argument", name, b)
				}
			}
		}
	}
}

// TestReadingDoesNotGoBehindItsBytes has in the spare room what would make it
// whole.
func TestReadingDoesNotGoBehindItsBytes(t *testing.T) {
	c := impl.Conf{N: 4, Fan: 2}
	for _, s := range fewSafes() {
		note, text, qc := noteWritten(s), safeWritten(s), qcWritten(s.High)
		for cut := range note {
			if got, used := impl.LastNote(c, note[:cut]); used != 0 || !sameSafe(got, impl.SafeNew()) {
				t.Fatalf("LastNote of %d of %q = %v, %d", cut, note, got, used)
			}
		}
		for cut := range text {
			if got, ok := impl.SafeOf(c, text[:cut]); ok || !sameSafe(got, impl.Safe{}) {
				t.Fatalf("SafeOf of %d of %q = %v", cut, text, got)
			}
		}
		for cut := range qc {
			if got, next, ok := impl.QcOf(c, qc[:cut], 0); ok || next != 0 || !sameQc(got, impl.Qc{}) {
				t.Fatalf("QcOf of %d of %q = %v, %d", cut, qc, got, next)
			}
		}
	}
	who := []int{0, 1, 2, 3}
	if got := impl.QcBytes(c, qcOf(2, "/2|", who[:2]...)); len(got) != 0 {
		t.Errorf("what stands behind Who counts: %q", got)
	}
	if got := impl.QcBytes(c, qcOf(2, "/2|", who[:3]...)); string(got) != "\x02\x03/2|\x03\x00\x01\x02" {
		t.Errorf("what stands behind Who is written: %q", got)
	}
}

// TestManyNotes has more notes than a disk can hold, and tears the last one.
func TestManyNotes(t *testing.T) {
	c := impl.Conf{N: 7, Fan: 2}
	var all []byte
	var last impl.Safe
	for i := range 3000 {
		last = safeOf(i%61, i*7%61, enoughQc(c, []string{"", "/2|", "/1|/2|/3|"}[i%3]), "/1|/4|")
		all = append(all, impl.NoteBytes(c, last)...)
	}
	if got, used := impl.LastNote(c, all); !sameSafe(got, last) || used != len(all) {
		t.Errorf("LastNote of %d bytes = %v, %d", len(all), got, used)
	}
	torn := noteWritten(safeOf(9, 9, impl.QcFirst(), "/1|"))
	all = append(all, torn[:len(torn)-1]...)
	if got, used := impl.LastNote(c, all); !sameSafe(got, last) || used != len(all)-len(torn)+1 {
		t.Errorf("LastNote of %d bytes, the last note torn = %v, %d", len(all), got, used)
	}
}

// TestGreatBytes has bytes that claim far more than is right, and have it.
func TestGreatBytes(t *testing.T) {
	c := impl.Conf{N: 4, Fan: 2}
	many := 1 << 20
	crowd := slices.Concat([]byte("\x02\x03/2|"), numWritten(many), bytes.Repeat([]byte{1}, many))
	name := slices.Concat([]byte{2}, textWritten(strings.Repeat("/2|", many/3)), []byte{3, 0, 1, 2})
	for _, qc := range [][]byte{crowd, name, bytes.Repeat([]byte{128}, many), bytes.Repeat([]byte{255}, many)} {
		if q, next, ok := impl.QcOf(c, qc, 0); ok || next != 0 || !sameQc(q, impl.Qc{}) {
			t.Errorf("QcOf of %d bytes = %d, %v", len(qc), next, ok)
		}
		text := slices.Concat([]byte{1, 1}, qc, []byte{0})
		if s, ok := impl.SafeOf(c, text); ok || !sameSafe(s, impl.Safe{}) {
			t.Errorf("SafeOf of %d bytes is true", len(text))
		}
		whole := noteWritten(safeOf(1, 1, impl.QcFirst(), ""))
		if s, used := impl.LastNote(c, append(slices.Clone(whole), noteOf(text)...)); used != len(whole) || s.Voted != 1 {
			t.Errorf("LastNote of %d bytes = %d", len(text), used)
		}
	}
	if q, next, ok := impl.QcOf(c, make([]byte, many), 5); !ok || next != 8 || !sameQc(q, impl.QcFirst()) {
		t.Error("QcFirst among zeros", next, ok)
	}
	if s, used := impl.LastNote(c, make([]byte, many)); used != 0 || !sameSafe(s, impl.SafeNew()) {
		t.Error("LastNote of zeros", used)
	}
	who, steps := viewsFrom(0, 50000), strings.Repeat("/1|", 50000)
	for i, q := range []impl.Qc{qcOf(1, steps, 0, 1, 2), qcOf(1, "/1|", who...)} {
		wrote := fmt.Sprintf("%q", [][]byte{impl.QcBytes(c, q), impl.SafeBytes(c, impl.Safe{High: q}), impl.NoteBytes(c, impl.Safe{High: q})})
		if wrote != `["" "" ""]` {
			t.Errorf("of great certificate %d is written %.40s", i, wrote)
		}
	}
}
