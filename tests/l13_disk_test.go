package tests

import (
	"bytes"
	"math"
	"slices"
	"strings"
	"sync"
	"testing"

	"loop.example/g00448/impl"
)

// mostOnDisk is written out, so that a limit that was turned is seen.
const mostOnDisk = 100000

func diskOf(text string, sure int) impl.Disk { return impl.Disk{Bytes: []byte(text), Sure: sure} }

func cloneDisk(d impl.Disk) impl.Disk { return diskOf(string(d.Bytes), d.Sure) }

func sameDisk(a, b impl.Disk) bool { return string(a.Bytes) == string(b.Bytes) && a.Sure == b.Sure }

// manyBytes are told apart by their places, so that none can stand for another.
func manyBytes(many int) string {
	out := make([]byte, many)
	for i := range out {
		out[i] = byte(i ^ i>>8)
	}
	return string(out)
}

func diskOkByWords(d impl.Disk) bool {
	return !(len(d.Bytes) > mostOnDisk) && !(d.Sure < 0) && !(d.Sure > len(d.Bytes))
}

func appendByWords(d impl.Disk, b []byte) (impl.Disk, bool) {
	more := diskOf(string(d.Bytes)+string(b), d.Sure)
	if !diskOkByWords(d) || !diskOkByWords(more) {
		return cloneDisk(d), false
	}
	return more, true
}

func syncByWords(d impl.Disk) impl.Disk {
	if !diskOkByWords(d) {
		return cloneDisk(d)
	}
	return diskOf(string(d.Bytes), len(d.Bytes))
}

// fallByWords keeps byte by byte, so that no keep is ever added to anything.
func fallByWords(d impl.Disk, keep int) impl.Disk {
	if !diskOkByWords(d) {
		return cloneDisk(d)
	}
	kept := string(d.Bytes[:d.Sure])
	for _, one := range d.Bytes[d.Sure:] {
		if keep <= 0 {
			break
		}
		kept += string([]byte{one})
		keep--
	}
	return diskOf(kept, len(kept))
}

// shortDisks has each Sure of each of a few texts, right and wrong.
func shortDisks() []impl.Disk {
	out := []impl.Disk{{}, {Bytes: []byte{}}, {Sure: 1}, {Sure: -1}}
	for _, text := range []string{"", "a", "ab", "abc", "\x00\x00", "\xff\n\x80", "abcdefgh"} {
		for sure := -2; sure <= len(text)+2; sure++ {
			out = append(out, diskOf(text, sure))
		}
		for _, sure := range []int{math.MinInt, -mostOnDisk, mostOnDisk, mostOnDisk + 1, math.MaxInt32 + 1, 1 << 32, math.MaxInt} {
			out = append(out, diskOf(text, sure))
		}
	}
	return out
}

// greatDisks has just so many bytes as there may be, one fewer and one more.
func greatDisks() []impl.Disk {
	var out []impl.Disk
	for _, many := range []int{mostOnDisk - 1, mostOnDisk, mostOnDisk + 1} {
		text := manyBytes(many)
		for _, sure := range []int{-1, 0, 1, many / 2, many - 1, many, many + 1} {
			out = append(out, diskOf(text, sure))
		}
	}
	return out
}

func wrongDisks() []impl.Disk {
	return []impl.Disk{
		{Sure: 1},
		{Sure: -1},
		diskOf("abc", 4),
		diskOf("abc", -1),
		diskOf("abc", math.MaxInt),
		diskOf("abc", math.MinInt),
		diskOf(manyBytes(mostOnDisk+1), 0),
		diskOf(manyBytes(mostOnDisk+1), 7),
		diskOf(manyBytes(mostOnDisk+1), mostOnDisk),
		diskOf(manyBytes(mostOnDisk+1), mostOnDisk+1),
		diskOf(manyBytes(mostOnDisk+1), mostOnDisk+2),
		diskOf(manyBytes(mostOnDisk+1), -1),
		diskOf(manyBytes(2*mostOnDisk), 3),
	}
}

func keeps() []int {
	return []int{math.MinInt, math.MinInt + 1, -mostOnDisk, -2, -1, 0, 1, 2, 3, 4, 5, 7, 8, 9, mostOnDisk - 1, mostOnDisk, mostOnDisk + 1, 1 << 32, math.MaxInt - 1, math.MaxInt}
}

func writtenTexts() []string {
	return []string{"", "x", "yz", "\x00", "\n\xff", "abcabc"}
}

func checkAppend(t *testing.T, d impl.Disk, b []byte) {
	t.Helper()
	got, ok := impl.Append(d, b)
	want, wantOk := appendByWords(d, b)
	if !sameDisk(got, want) || ok != wantOk {
		t.Fatalf("Append of %d bytes to %d, %d sure = %d, %d sure, %v, want %d, %d sure, %v", len(b), len(d.Bytes), d.Sure, len(got.Bytes), got.Sure, ok, len(want.Bytes), want.Sure, wantOk)
	}
}

func TestMaxDisk(t *testing.T) {
	if impl.MaxDisk != mostOnDisk {
		t.Errorf("MaxDisk = %d, want %d", impl.MaxDisk, mostOnDisk)
	}
}

func TestDiskOk(t *testing.T) {
	full, tooMany := manyBytes(mostOnDisk), manyBytes(mostOnDisk+1)
	cases := []struct {
		name string
		d    impl.Disk
		want bool
	}{
		{"nothing", impl.Disk{}, true},
		{"an empty list", impl.Disk{Bytes: []byte{}}, true},
		{"none sure", diskOf("abc", 0), true},
		{"some sure", diskOf("abc", 1), true},
		{"all but one sure", diskOf("abc", 2), true},
		{"all sure", diskOf("abc", 3), true},
		{"just so many, none sure", diskOf(full, 0), true},
		{"just so many, some sure", diskOf(full, mostOnDisk/2), true},
		{"just so many, all sure", diskOf(full, mostOnDisk), true},

		{"one sure of nothing", diskOf("", 1), false},
		{"one sure below 0 of nothing", diskOf("", -1), false},
		{"one more sure than there are", diskOf("abc", 4), false},
		{"one sure below 0", diskOf("abc", -1), false},
		{"the greatest Sure", diskOf("abc", math.MaxInt), false},
		{"the least Sure", diskOf("abc", math.MinInt), false},
		{"a Sure whose low bits are right", diskOf("abc", 1<<32+1), false},
		{"just so many, one more sure", diskOf(full, mostOnDisk+1), false},
		{"just so many, one below 0", diskOf(full, -1), false},
		{"one too many, none sure", diskOf(tooMany, 0), false},
		{"one too many, MaxDisk sure", diskOf(tooMany, mostOnDisk), false},
		{"one too many, all sure", diskOf(tooMany, mostOnDisk+1), false},
		{"twice too many", diskOf(full+full, 0), false},
	}
	for _, k := range cases {
		if got := impl.DiskOk(k.d); got != k.want {
			t.Errorf("%s: DiskOk = %v, want %v", k.name, got, k.want)
		}
	}
}

// TestDiskOkCountsBytesNotRoom has spare room behind the bytes, which is none
// of them: it makes nothing too many, and nothing sure.
func TestDiskOkCountsBytesNotRoom(t *testing.T) {
	room := make([]byte, mostOnDisk+1)
	for _, k := range []struct {
		many, sure int
		want       bool
	}{{0, 0, true}, {3, 3, true}, {mostOnDisk, mostOnDisk, true}, {3, 4, false}, {0, 1, false}, {mostOnDisk, mostOnDisk + 1, false}} {
		if got := impl.DiskOk(impl.Disk{Bytes: room[:k.many], Sure: k.sure}); got != k.want {
			t.Errorf("DiskOk of %d bytes, %d sure, room behind = %v, want %v", k.many, k.sure, got, k.want)
		}
	}
}

func TestDiskOkAsTheWordsSay(t *testing.T) {
	for _, d := range slices.Concat(shortDisks(), greatDisks(), wrongDisks()) {
		if got, want := impl.DiskOk(d), diskOkByWords(d); got != want {
			t.Fatalf("DiskOk of %d bytes, %d sure = %v, want %v", len(d.Bytes), d.Sure, got, want)
		}
	}
	for _, d := range wrongDisks() {
		if impl.DiskOk(d) {
			t.Errorf("DiskOk of %d bytes, %d sure is true", len(d.Bytes), d.Sure)
		}
	}
}

func TestAppend(t *testing.T) {
	full := manyBytes(mostOnDisk)
	cases := []struct {
		name string
		d    impl.Disk
		b    string
		want impl.Disk
		ok   bool
	}{
		{"nothing to nothing", impl.Disk{}, "", impl.Disk{}, true},
		{"to nothing", impl.Disk{}, "abc", diskOf("abc", 0), true},
		{"to bytes of which none is sure", diskOf("abc", 0), "de", diskOf("abcde", 0), true},
		{"to bytes of which some are sure", diskOf("abc", 2), "de", diskOf("abcde", 2), true},
		{"to bytes all of which are sure", diskOf("abc", 3), "de", diskOf("abcde", 3), true},
		{"nothing behind bytes", diskOf("abc", 1), "", diskOf("abc", 1), true},
		{"nothing behind sure bytes", diskOf("abc", 3), "", diskOf("abc", 3), true},
		{"the same bytes again", diskOf("abc", 3), "abc", diskOf("abcabc", 3), true},
		{"bytes that are no signs", diskOf("\x00\xff", 1), "\n\x00\x80", diskOf("\x00\xff\n\x00\x80", 1), true},

		{"MaxDisk to nothing", impl.Disk{}, full, diskOf(full, 0), true},
		{"so that just MaxDisk are there", diskOf(full[:mostOnDisk-2], 7), full[mostOnDisk-2:], diskOf(full, 7), true},
		{"the last one", diskOf(full[:mostOnDisk-1], mostOnDisk-1), full[mostOnDisk-1:], diskOf(full, mostOnDisk-1), true},
		{"nothing behind MaxDisk", diskOf(full, 9), "", diskOf(full, 9), true},
		{"nothing behind MaxDisk that are sure", diskOf(full, mostOnDisk), "", diskOf(full, mostOnDisk), true},

		{"one more than MaxDisk to nothing", impl.Disk{}, full + "x", impl.Disk{}, false},
		{"one more than there may be", diskOf(full[:mostOnDisk-2], 7), "xyz", diskOf(full[:mostOnDisk-2], 7), false},
		{"one behind MaxDisk", diskOf(full, 5), "x", diskOf(full, 5), false},
		{"one behind MaxDisk that are sure", diskOf(full, mostOnDisk), "x", diskOf(full, mostOnDisk), false},
		{"MaxDisk behind one", diskOf("a", 1), full, diskOf("a", 1), false},
		{"MaxDisk behind MaxDisk", diskOf(full, 0), full, diskOf(full, 0), false},

		{"to one more sure than there are", diskOf("abc", 4), "x", diskOf("abc", 4), false},
		{"so that as many would be there as are sure", diskOf("abc", 5), "de", diskOf("abc", 5), false},
		{"nothing to one more sure", diskOf("abc", 4), "", diskOf("abc", 4), false},
		{"to one sure below 0", diskOf("abc", -1), "x", diskOf("abc", -1), false},
		{"to one sure of nothing", diskOf("", 1), "x", diskOf("", 1), false},
		{"to the greatest Sure", diskOf("abc", math.MaxInt), "x", diskOf("abc", math.MaxInt), false},
		{"to the least Sure", diskOf("abc", math.MinInt), "x", diskOf("abc", math.MinInt), false},
		{"nothing to one too many", diskOf(full+"x", 3), "", diskOf(full+"x", 3), false},
		{"to one too many", diskOf(full+"x", 3), "y", diskOf(full+"x", 3), false},
	}
	for _, k := range cases {
		got, ok := impl.Append(k.d, []byte(k.b))
		if !sameDisk(got, k.want) || ok != k.ok {
			t.Errorf("%s: Append = %.20q of %d, %d, %v, want %.20q of %d, %d, %v", k.name, got.Bytes, len(got.Bytes), got.Sure, ok, k.want.Bytes, len(k.want.Bytes), k.want.Sure, k.ok)
		}
	}
	if got, ok := impl.Append(diskOf("abc", 1), nil); !sameDisk(got, diskOf("abc", 1)) || !ok {
		t.Errorf("nil: Append = %v, %v", got, ok)
	}
}

func TestAppendAsTheWordsSay(t *testing.T) {
	for _, d := range shortDisks() {
		for _, text := range append(writtenTexts(), manyBytes(mostOnDisk-8), manyBytes(mostOnDisk), manyBytes(mostOnDisk+1)) {
			checkAppend(t, d, []byte(text))
		}
	}
	for _, d := range append(greatDisks(), wrongDisks()...) {
		for _, text := range append(writtenTexts(), manyBytes(mostOnDisk)) {
			checkAppend(t, d, []byte(text))
		}
	}
}

// TestAppendMeetsTheLimit has each way to part MaxDisk near both ends, and one
// byte fewer and more.
func TestAppendMeetsTheLimit(t *testing.T) {
	for _, there := range []int{0, 1, 2, mostOnDisk / 2, mostOnDisk - 2, mostOnDisk - 1, mostOnDisk} {
		for more := max(0, mostOnDisk-there-1); more <= mostOnDisk-there+1; more++ {
			text := manyBytes(there + more)
			d := diskOf(text[:there], there/2)
			got, ok := impl.Append(d, []byte(text[there:]))
			want := there+more <= mostOnDisk
			if ok != want || ok && !sameDisk(got, diskOf(text, there/2)) || !ok && !sameDisk(got, d) || !impl.DiskOk(got) {
				t.Errorf("Append of %d to %d = %d, %d, %v", more, there, len(got.Bytes), got.Sure, ok)
			}
		}
	}
}

func TestAppendBytesOneByOneIsAsAtOnce(t *testing.T) {
	text := "what is sure stays\n\x00\xff"
	for sure := 0; sure <= 3; sure++ {
		one := diskOf("abc", sure)
		for i := range len(text) {
			more, ok := impl.Append(one, []byte(text[i:i+1]))
			if !ok {
				t.Fatalf("Append of byte %d is false", i)
			}
			one = more
		}
		if all, ok := impl.Append(diskOf("abc", sure), []byte(text)); !ok || !sameDisk(all, one) {
			t.Errorf("%d sure: at once %v, one by one %v", sure, all, one)
		}
	}
}

func TestSync(t *testing.T) {
	full := manyBytes(mostOnDisk)
	cases := []struct {
		name string
		d    impl.Disk
		want int
	}{
		{"nothing", impl.Disk{}, 0},
		{"an empty list", impl.Disk{Bytes: []byte{}}, 0},
		{"none sure", diskOf("abc", 0), 3},
		{"some sure", diskOf("abc", 2), 3},
		{"all sure", diskOf("abc", 3), 3},
		{"MaxDisk, none sure", diskOf(full, 0), mostOnDisk},
		{"MaxDisk, all but one sure", diskOf(full, mostOnDisk-1), mostOnDisk},
		{"MaxDisk, all sure", diskOf(full, mostOnDisk), mostOnDisk},

		{"one sure of nothing", diskOf("", 1), 1},
		{"one below 0 of nothing", diskOf("", -1), -1},
		{"one more sure", diskOf("abc", 4), 4},
		{"one below 0", diskOf("abc", -1), -1},
		{"the greatest Sure", diskOf("abc", math.MaxInt), math.MaxInt},
		{"the least Sure", diskOf("abc", math.MinInt), math.MinInt},
		{"one too many", diskOf(full+"x", 7), 7},
		{"one too many, all sure", diskOf(full+"x", mostOnDisk+1), mostOnDisk + 1},
	}
	for _, k := range cases {
		got := impl.Sync(k.d)
		if !sameDisk(got, diskOf(string(k.d.Bytes), k.want)) {
			t.Errorf("%s: Sync = %.20q of %d, %d, want Sure %d", k.name, got.Bytes, len(got.Bytes), got.Sure, k.want)
		}
		if again := impl.Sync(got); !sameDisk(again, got) {
			t.Errorf("%s: Sync twice is Sure %d, once %d", k.name, again.Sure, got.Sure)
		}
	}
}

func TestSyncAsTheWordsSay(t *testing.T) {
	for _, d := range slices.Concat(shortDisks(), greatDisks(), wrongDisks()) {
		if got, want := impl.Sync(d), syncByWords(d); !sameDisk(got, want) {
			t.Fatalf("Sync of %d bytes, %d sure = %d, %d, want %d, %d", len(d.Bytes), d.Sure, len(got.Bytes), got.Sure, len(want.Bytes), want.Sure)
		}
	}
}

func TestFallTo(t *testing.T) {
	full := manyBytes(mostOnDisk)
	cases := []struct {
		name string
		d    impl.Disk
		keep int
		want string
	}{
		{"nothing", impl.Disk{}, 0, ""},
		{"nothing, keep 3", impl.Disk{}, 3, ""},
		{"nothing, keep below 0", impl.Disk{}, -1, ""},
		{"none sure, keep 0", diskOf("abcde", 0), 0, ""},
		{"none sure, keep 1", diskOf("abcde", 0), 1, "a"},
		{"none sure, keep all", diskOf("abcde", 0), 5, "abcde"},
		{"none sure, keep more", diskOf("abcde", 0), 6, "abcde"},
		{"none sure, keep below 0", diskOf("abcde", 0), -1, ""},
		{"some sure, keep 0", diskOf("abcde", 2), 0, "ab"},
		{"some sure, keep 1", diskOf("abcde", 2), 1, "abc"},
		{"some sure, keep 2", diskOf("abcde", 2), 2, "abcd"},
		{"some sure, keep just as many", diskOf("abcde", 2), 3, "abcde"},
		{"some sure, keep one more", diskOf("abcde", 2), 4, "abcde"},
		{"some sure, keep as many as all", diskOf("abcde", 2), 5, "abcde"},
		{"some sure, keep -1", diskOf("abcde", 2), -1, "ab"},
		{"some sure, keep less than what is sure", diskOf("abcde", 2), -2, "ab"},
		{"some sure, keep the greatest", diskOf("abcde", 2), math.MaxInt, "abcde"},
		{"some sure, keep the greatest but one", diskOf("abcde", 2), math.MaxInt - 1, "abcde"},
		{"some sure, keep the least", diskOf("abcde", 2), math.MinInt, "ab"},
		{"some sure, keep low bits alone", diskOf("abcde", 2), 1<<32 + 1, "abcde"},
		{"all sure, keep 0", diskOf("abcde", 5), 0, "abcde"},
		{"all sure, keep 1", diskOf("abcde", 5), 1, "abcde"},
		{"all sure, keep -1", diskOf("abcde", 5), -1, "abcde"},
		{"all sure, keep the greatest", diskOf("abcde", 5), math.MaxInt, "abcde"},
		{"all sure, keep the least", diskOf("abcde", 5), math.MinInt, "abcde"},
		{"MaxDisk, none sure, keep 0", diskOf(full, 0), 0, ""},
		{"MaxDisk, none sure, keep all", diskOf(full, 0), mostOnDisk, full},
		{"MaxDisk, some sure, keep some", diskOf(full, 40000), 30000, full[:70000]},
		{"MaxDisk, all sure, keep 0", diskOf(full, mostOnDisk), 0, full},
	}
	for _, k := range cases {
		if got := impl.FallTo(k.d, k.keep); !sameDisk(got, diskOf(k.want, len(k.want))) {
			t.Errorf("%s: FallTo = %.20q of %d, %d, want %.20q of %d, all sure", k.name, got.Bytes, len(got.Bytes), got.Sure, k.want, len(k.want))
		}
	}
}

func TestFallToLeavesWhatIsNoDisk(t *testing.T) {
	for _, d := range wrongDisks() {
		for _, keep := range keeps() {
			if got := impl.FallTo(d, keep); !sameDisk(got, d) {
				t.Errorf("FallTo(%d) of %d bytes, %d sure = %d, %d", keep, len(d.Bytes), d.Sure, len(got.Bytes), got.Sure)
			}
		}
	}
}

func TestFallToAsTheWordsSay(t *testing.T) {
	for _, d := range shortDisks() {
		for _, keep := range keeps() {
			if got, want := impl.FallTo(d, keep), fallByWords(d, keep); !sameDisk(got, want) {
				t.Fatalf("FallTo(%v, %d) = %v, want %v", d, keep, got, want)
			}
		}
	}
}

// TestFallToOfWhatIsSureTurnsNothing: a second fall takes nothing, whatever is
// kept of what is not there.
func TestFallToOfWhatIsSureTurnsNothing(t *testing.T) {
	for _, d := range shortDisks() {
		for _, keep := range keeps() {
			once := impl.FallTo(d, keep)
			for _, again := range keeps() {
				if got := impl.FallTo(once, again); !sameDisk(got, once) {
					t.Fatalf("FallTo(FallTo(%v, %d), %d) = %v, want %v", d, keep, again, got, once)
				}
			}
		}
		if got, want := impl.FallTo(d, math.MaxInt), impl.Sync(d); !sameDisk(got, want) {
			t.Fatalf("FallTo of %v with all kept = %v, Sync %v", d, got, want)
		}
	}
}

// checkSure holds what came of a disk against it: what was sure is there, in its
// place, and is sure.
func checkSure(t *testing.T, what string, was, is impl.Disk) {
	t.Helper()
	if !impl.DiskOk(is) {
		t.Fatalf("%s of %.40q, %d sure is not DiskOk: %.40q, %d", what, was.Bytes, was.Sure, is.Bytes, is.Sure)
	}
	if is.Sure < was.Sure || !bytes.Equal(is.Bytes[:was.Sure], was.Bytes[:was.Sure]) {
		t.Fatalf("%s of %.40q, %d sure lost what was sure: %.40q, %d", what, was.Bytes, was.Sure, is.Bytes, is.Sure)
	}
}

// TestWhatIsSureStays goes over all short rows of writing, making sure and
// falling: promise 13.
func TestWhatIsSureStays(t *testing.T) {
	steps := []struct {
		name string
		turn func(impl.Disk) impl.Disk
	}{
		{"Append of ab", func(d impl.Disk) impl.Disk { d, _ = impl.Append(d, []byte("ab")); return d }},
		{"Append of xyz", func(d impl.Disk) impl.Disk { d, _ = impl.Append(d, []byte("xyz")); return d }},
		{"Append of too many", func(d impl.Disk) impl.Disk { d, _ = impl.Append(d, make([]byte, mostOnDisk+1)); return d }},
		{"Sync", impl.Sync},
		{"FallTo the least", func(d impl.Disk) impl.Disk { return impl.FallTo(d, math.MinInt) }},
		{"FallTo 0", func(d impl.Disk) impl.Disk { return impl.FallTo(d, 0) }},
		{"FallTo 1", func(d impl.Disk) impl.Disk { return impl.FallTo(d, 1) }},
		{"FallTo the greatest", func(d impl.Disk) impl.Disk { return impl.FallTo(d, math.MaxInt) }},
	}
	var goOn func(impl.Disk, int)
	goOn = func(d impl.Disk, left int) {
		if left == 0 {
			return
		}
		for _, s := range steps {
			was := cloneDisk(d)
			is := s.turn(d)
			checkSure(t, s.name, was, is)
			if !sameDisk(d, was) {
				t.Fatalf("%s wrote into %q", s.name, was.Bytes)
			}
			goOn(is, left-1)
		}
	}
	goOn(impl.Disk{}, 5)
}

func TestWhatIsSureStaysOfAnyDisk(t *testing.T) {
	for _, d := range append(shortDisks(), greatDisks()...) {
		if !diskOkByWords(d) {
			continue
		}
		more, _ := impl.Append(d, []byte("more"))
		checkSure(t, "Append", d, more)
		checkSure(t, "Sync", d, impl.Sync(d))
		for _, keep := range keeps() {
			fell := impl.FallTo(d, keep)
			checkSure(t, "FallTo", d, fell)
			if fell.Sure != len(fell.Bytes) {
				t.Fatalf("FallTo(%d) of %d bytes, %d sure has %d of %d sure", keep, len(d.Bytes), d.Sure, fell.Sure, len(fell.Bytes))
			}
			if !bytes.HasPrefix(d.Bytes, fell.Bytes) {
				t.Fatalf("FallTo(%d) of %d bytes, %d sure has others", keep, len(d.Bytes), d.Sure)
			}
		}
	}
}

// TestWhatIsNotSureMayFall writes notes: those that were made sure outlast each
// fall, and one that is torn by it is left away.
func TestWhatIsNotSureMayFall(t *testing.T) {
	c := impl.Conf{N: 4, Fan: 2}
	sure, unsure := safeOf(3, 1, qcOf(2, "/2|", 0, 1, 2), "/1|"), safeOf(9, 4, qcOf(5, "/5|", 1, 2, 3), "/1|")
	d, ok := impl.Append(impl.Disk{}, impl.NoteBytes(c, sure))
	d = impl.Sync(d)
	behind := impl.NoteBytes(c, unsure)
	more, more2 := impl.Append(d, behind)
	if !ok || !more2 {
		t.Fatal("notes do not go on a disk")
	}
	for keep := -1; keep <= len(behind)+1; keep++ {
		want, fell := sure, impl.FallTo(more, keep)
		if keep >= len(behind) {
			want = unsure
		}
		if got, _ := impl.LastNote(c, fell.Bytes); !sameSafe(got, want) {
			t.Errorf("FallTo %d of %d: the last note is %v, want %v", keep, len(behind), got, want)
		}
	}
}

// diskCalls has each function that answers a Disk, at several arguments.
func diskCalls() map[string]func(impl.Disk, []byte) impl.Disk {
	return map[string]func(impl.Disk, []byte) impl.Disk{
		"Append":              func(d impl.Disk, b []byte) impl.Disk { d, _ = impl.Append(d, b); return d },
		"Append of nothing":   func(d impl.Disk, b []byte) impl.Disk { d, _ = impl.Append(d, b[:0]); return d },
		"Append of itself":    func(d impl.Disk, _ []byte) impl.Disk { d, _ = impl.Append(d, d.Bytes); return d },
		"Append of too many":  func(d impl.Disk, _ []byte) impl.Disk { d, _ = impl.Append(d, make([]byte, mostOnDisk+1)); return d },
		"Sync":                func(d impl.Disk, _ []byte) impl.Disk { return impl.Sync(d) },
		"FallTo the least":    func(d impl.Disk, _ []byte) impl.Disk { return impl.FallTo(d, math.MinInt) },
		"FallTo 0":            func(d impl.Disk, _ []byte) impl.Disk { return impl.FallTo(d, 0) },
		"FallTo 1":            func(d impl.Disk, _ []byte) impl.Disk { return impl.FallTo(d, 1) },
		"FallTo the greatest": func(d impl.Disk, _ []byte) impl.Disk { return impl.FallTo(d, math.MaxInt) },
	}
}

// TestDisksAreNewMemory has room behind both lists, calls twice, and turns all
// of one answer, of its spare room and of the arguments: the other one stays.
func TestDisksAreNewMemory(t *testing.T) {
	for _, d := range slices.Concat(shortDisks(), greatDisks(), wrongDisks()) {
		for name, call := range diskCalls() {
			given, whole := bytesWithRoom(d.Bytes, []byte("behind the disk"))
			b, wholeB := bytesWithRoom([]byte("new"), []byte("behind the new"))
			before, beforeB := slices.Clone(whole), slices.Clone(wholeB)
			of := impl.Disk{Bytes: given, Sure: d.Sure}
			got, again := call(of, b), call(of, b)
			if !bytes.Equal(whole, before) || !bytes.Equal(wholeB, beforeB) || !sameDisk(of, d) {
				t.Fatalf("%s of %d bytes, %d sure wrote into an argument", name, len(d.Bytes), d.Sure)
			}
			if !sameDisk(got, again) {
				t.Fatalf("%s of %d bytes, %d sure answers otherwise the second time", name, len(d.Bytes), d.Sure)
			}
			want := cloneDisk(got)
			spoilBytes(got.Bytes)
			if !bytes.Equal(whole, before) || !bytes.Equal(wholeB, beforeB) {
				t.Fatalf("%s of %d bytes, %d sure: an answer shares memory with an argument", name, len(d.Bytes), d.Sure)
			}
			spoilBytes(whole)
			spoilBytes(wholeB)
			if !sameDisk(again, want) {
				t.Fatalf("%s of %d bytes, %d sure: an answer changes with another one or with an argument", name, len(d.Bytes), d.Sure)
			}
		}
	}
}

// TestDisksFromOneDoNotMix writes two ways on from one disk that has room behind
// its bytes, and on from what was answered.
func TestDisksFromOneDoNotMix(t *testing.T) {
	room := append(make([]byte, 0, 64), "abc"...)
	start := impl.Disk{Bytes: room, Sure: 3}
	for range 2 {
		one, _ := impl.Append(start, []byte("one"))
		two, _ := impl.Append(start, []byte("two"))
		deep, _ := impl.Append(one, []byte("!"))
		other, _ := impl.Append(one, []byte("?"))
		fell := impl.FallTo(one, 1)
		on, _ := impl.Append(fell, []byte("XYZ"))
		texts := []string{string(start.Bytes), string(one.Bytes), string(two.Bytes), string(deep.Bytes), string(other.Bytes), string(fell.Bytes), string(on.Bytes)}
		if got, want := strings.Join(texts, " "), "abc abcone abctwo abcone! abcone? abco abcoXYZ"; got != want {
			t.Fatalf("disks mix: %q, want %q", got, want)
		}
		start = impl.Sync(start)
	}
}

// TestDisksKeepNothing asks the same again once others were asked: how often a
// disk was made sure, and which, counts for no other one.
func TestDisksKeepNothing(t *testing.T) {
	d := diskOf("abcde", 2)
	for range 3 {
		if got := impl.Sync(diskOf("xyz", 1)); got.Sure != 3 {
			t.Fatalf("Sync = %v", got)
		}
		if got, ok := impl.Append(d, []byte("f")); !ok || !sameDisk(got, diskOf("abcdef", 2)) {
			t.Fatalf("Append behind a Sync of another one = %v, %v", got, ok)
		}
		if got := impl.FallTo(d, 1); !sameDisk(got, diskOf("abc", 3)) {
			t.Fatalf("FallTo behind an Append of its own = %v", got)
		}
		if got := impl.Sync(diskOf("abc", 4)); !sameDisk(got, diskOf("abc", 4)) {
			t.Fatalf("Sync of what is no disk = %v", got)
		}
	}
}

// TestDisksAtOnce asks many at once of one disk: none waits for another for
// ever, and each is answered as if it were alone.
func TestDisksAtOnce(t *testing.T) {
	d, b := diskOf("abcde", 2), []byte("fg")
	var all sync.WaitGroup
	right := make([]bool, 64)
	for i := range right {
		all.Go(func() {
			more, ok := impl.Append(d, b)
			right[i] = ok && sameDisk(more, diskOf("abcdefg", 2)) &&
				sameDisk(impl.Sync(d), diskOf("abcde", 5)) &&
				sameDisk(impl.FallTo(d, i%4), fallByWords(d, i%4)) && impl.DiskOk(d)
		})
	}
	all.Wait()
	if i := slices.Index(right, false); i >= 0 {
		t.Errorf("asked at once, number %d is answered otherwise", i)
	}
}

// TestVeryGreatDisks has far more bytes than a disk may have.
func TestVeryGreatDisks(t *testing.T) {
	great := bytes.Repeat([]byte("0123456789"), 1<<20)
	for _, sure := range []int{0, 1, mostOnDisk, len(great), len(great) + 1, -1} {
		d := impl.Disk{Bytes: great, Sure: sure}
		more, ok := impl.Append(d, great)
		if impl.DiskOk(d) || ok || !sameDisk(more, d) || !sameDisk(impl.Sync(d), d) || !sameDisk(impl.FallTo(d, 3), d) {
			t.Errorf("a disk of %d bytes, %d sure is taken", len(great), sure)
		}
	}
	if got, ok := impl.Append(diskOf("abc", 1), great); ok || !sameDisk(got, diskOf("abc", 1)) {
		t.Errorf("%d bytes go on a disk", len(great))
	}
}
