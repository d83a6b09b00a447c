package tests

import (
	"math"
	"slices"
	"strings"
	"testing"

	"loop.example/g00448/impl"
)

func blockOf(name string, q impl.Qc) impl.Block { return impl.Block{Name: name, Qc: q} }

func cloneBlock(b impl.Block) impl.Block {
	return blockOf(strings.Clone(b.Name), cloneQc(b.Qc))
}

func sameBlock(a, b impl.Block) bool { return a.Name == b.Name && sameQc(a.Qc, b.Qc) }

func isZeroBlock(b impl.Block) bool { return sameBlock(b, impl.Block{}) }

// blockOkByWords is a second reading of what the document says.
func blockOkByWords(c impl.Conf, b impl.Block) bool {
	steps, named := stepsByWords(b.Name)
	if !named || len(steps) == 0 {
		return false
	}
	return qcOkByWords(c, b.Qc) && nameByWords(steps[:len(steps)-1]) == b.Qc.Name
}

func blockNewByWords(c impl.Conf, q impl.Qc, view int, list []impl.Tx) (impl.Block, bool) {
	b := blockOf(q.Name+nameByWords([]impl.Step{{View: view, Txs: list}}), q)
	if !blockOkByWords(c, b) || viewByWords(b.Name) != view {
		return impl.Block{}, false
	}
	return b, true
}

// enoughQc is a certificate of that name by as many as are enough of c, or the
// first one.
func enoughQc(c impl.Conf, name string) impl.Qc {
	if name == "" {
		return impl.QcFirst()
	}
	return qcOf(viewByWords(name), name, setOfBits(1<<enoughOf(c.N)-1)...)
}

// blockViews has the views around that of what a block would stand on, around
// the limits, and far from them.
func blockViews(on int) []int {
	return []int{
		on - 2, on - 1, on, on + 1, on + 2, on + 10, -on, -on - 1,
		-61, -60, -1, 0, 1, 2, 9, 10, 30, 31, 59, 60, 61, 62, 100, 600, 999999, 1000000,
		1 << 32, 1<<32 + on + 1, 1<<32 - 1, -1 << 32, math.MinInt, math.MinInt + 1, math.MaxInt - 1, math.MaxInt,
	}
}

func blockLists() [][]impl.Tx {
	five, one := impl.Tx{To: 1, Amount: 5}, impl.Tx{From: 3, To: 2, Amount: 1000, Nonce: 99}
	out := [][]impl.Tx{
		nil, {}, {five}, {one}, {five, one}, {one, five}, {five, five}, {{}}, {{}, {}},
		{five, five, five}, {five, one, five}, {{}, {}, {}}, make([]impl.Tx, 40),
	}
	for _, x := range wrongTxs() {
		out = append(out, []impl.Tx{x}, []impl.Tx{x, five}, []impl.Tx{five, x}, []impl.Tx{five, five, x})
	}
	return out
}

func TestBlockOk(t *testing.T) {
	four, seven := impl.Conf{N: 4, Fan: 2}, impl.Conf{N: 7, Fan: 6}
	first, one := impl.QcFirst(), qcOf(1, "/1|", 0, 1, 2)
	three := qcOf(3, "/2|0>1:5#0/3|", 0, 1, 3)
	almost, full := nameByWords(chainOf(viewsFrom(1, 29)...)), nameByWords(chainOf(viewsFrom(1, 30)...))
	cases := []struct {
		name string
		c    impl.Conf
		b    impl.Block
		want bool
	}{
		{"on the first certificate", four, blockOf("/1|", first), true},
		{"on the first certificate, a later view", four, blockOf("/60|", first), true},
		{"on the first certificate, payments", four, blockOf("/7|0>1:5#0,3>2:1000#99", first), true},
		{"on the first certificate, an empty list", four, blockOf("/1|", impl.Qc{Who: []int{}}), true},
		{"on a later one", four, blockOf("/1|/2|", one), true},
		{"on a later one, a view left out", four, blockOf("/1|/4|0>1:0#0", one), true},
		{"on one of two steps", four, blockOf("/2|0>1:5#0/3|/60|", three), true},
		{"all voted", four, blockOf("/1|/2|", qcOf(1, "/1|", 0, 1, 2, 3)), true},
		{"of seven", seven, blockOf("/1|/2|", qcOf(1, "/1|", 0, 2, 3, 4, 6)), true},
		{"up to MaxHeight", four, blockOf(full, qcOf(29, almost, 0, 1, 2)), true},

		{"zero", four, impl.Block{}, false},
		{"the beginning, with an empty list", four, blockOf("", impl.Qc{Who: []int{}}), false},
		{"the beginning on a later one", four, blockOf("", one), false},
		{"the beginning on a certificate of nothing", four, blockOf("", qcOf(1, "", 0, 1, 2)), false},

		{"no name", four, blockOf("?", first), false},
		{"no name, behind that of the certificate", four, blockOf("/1|?", one), false},
		{"half a step", four, blockOf("/1|/", one), false},
		{"a view alone", four, blockOf("/1|/2", one), false},
		{"a step without its mark", four, blockOf("1|", first), false},
		{"view 0", four, blockOf("/0|", first), false},
		{"a view above MaxView", four, blockOf("/61|", first), false},
		{"a view above MaxView, on a later one", four, blockOf("/1|/61|", one), false},
		{"the view of its certificate", four, blockOf("/1|/1|", one), false},
		{"the view of its certificate, further on", four, blockOf("/2|0>1:5#0/3|/3|", three), false},
		{"a view below that of its certificate", four, blockOf("/2|0>1:5#0/3|/2|", three), false},
		{"the first view on a later one", four, blockOf("/2|0>1:5#0/3|/1|", three), false},
		{"a view with a nought ahead", four, blockOf("/1|/02|", one), false},
		{"too many payments", four, blockOf("/1|/2|0>1:5#0,0>1:5#1,0>1:5#2", one), false},
		{"no payment", four, blockOf("/1|/2|0>4:5#0", one), false},
		{"one step too many", four, blockOf(full+"/31|", qcOf(30, full, 0, 1, 2)), false},

		{"the certificate's own name", four, blockOf("/1|", one), false},
		{"another name", four, blockOf("/2|/4|", one), false},
		{"another name, of as many steps", four, blockOf("/1|0>1:5#0/4|", one), false},
		{"two steps behind the first certificate", four, blockOf("/1|/2|", first), false},
		{"two steps behind a later one", four, blockOf("/1|/2|/3|", one), false},
		{"one step less", four, blockOf("/4|", one), false},
		{"a name that only begins like it, by its digits", four, blockOf("/1|/12|/13|", qcOf(1, "/1|", 0, 1, 2)), false},
		{"a step that only begins like it", four, blockOf("/1|0>1:5#0", one), false},
		{"a step that only begins like it, one behind", four, blockOf("/3|0>1:5#10/4|", qcOf(3, "/3|0>1:5#1", 0, 1, 2)), false},
		{"the last step alone", four, blockOf("/3|/4|", three), false},

		{"the Conf zero", impl.Conf{}, blockOf("/1|", first), false},
		{"N one too few", impl.Conf{N: 3, Fan: 2}, blockOf("/1|", first), false},
		{"N one too many", impl.Conf{N: 8, Fan: 2}, blockOf("/1|", first), false},
		{"Fan one too few", impl.Conf{N: 4, Fan: 0}, blockOf("/1|/2|", one), false},
		{"Fan one too many", impl.Conf{N: 4, Fan: 7}, blockOf("/1|/2|", one), false},

		{"the first certificate, another view", four, blockOf("/1|", qcOf(1, "")), false},
		{"the first certificate, a view below 0", four, blockOf("/1|", qcOf(-1, "")), false},
		{"the first certificate, somebody", four, blockOf("/1|", qcOf(0, "", 0)), false},
		{"the first certificate, enough", four, blockOf("/1|", qcOf(0, "", 0, 1, 2)), false},
		{"a view below that of its name", four, blockOf("/1|/2|", qcOf(0, "/1|", 0, 1, 2)), false},
		{"a view above that of its name", four, blockOf("/1|/3|", qcOf(2, "/1|", 0, 1, 2)), false},
		{"the view of the block", four, blockOf("/1|/2|", qcOf(2, "/1|", 0, 1, 2)), false},
		{"a view below 0", four, blockOf("/1|/2|", qcOf(-1, "/1|", 0, 1, 2)), false},
		{"too few", four, blockOf("/1|/2|", qcOf(1, "/1|", 0, 1)), false},
		{"nobody", four, blockOf("/1|/2|", qcOf(1, "/1|")), false},
		{"too few of seven", seven, blockOf("/1|/2|", qcOf(1, "/1|", 0, 1, 2, 3)), false},
		{"enough of four are too few of five", impl.Conf{N: 5, Fan: 2}, blockOf("/1|/2|", one), false},
		{"the wrong order", four, blockOf("/1|/2|", qcOf(1, "/1|", 2, 1, 0)), false},
		{"one twice", four, blockOf("/1|/2|", qcOf(1, "/1|", 0, 1, 1)), false},
		{"one below 0", four, blockOf("/1|/2|", qcOf(1, "/1|", -1, 0, 1)), false},
		{"one that is N", four, blockOf("/1|/2|", qcOf(1, "/1|", 0, 1, 4)), false},
	}
	for _, c := range cases {
		if got := impl.BlockOk(c.c, c.b); got != c.want {
			t.Errorf("%s: BlockOk(%v, %v) = %v", c.name, c.c, c.b, got)
		}
		if blockOkByWords(c.c, c.b) != c.want {
			t.Errorf("%s: the second reading is not %v", c.name, c.want)
		}
	}
}

// TestBlockOkOfEachTwoNames takes each name on a certificate of each other one.
func TestBlockOkOfEachTwoNames(t *testing.T) {
	c := impl.Conf{N: 4, Fan: 2}
	names := append(kinNames(), "/1|/2|/3|", "/1|/2|/4|", "/1|/12|", "/1|/12|/13|", "/3|0>1:5#1", "/3|0>1:5#10", "/3|0>1:5#10/4|")
	ups := map[string]string{}
	for _, name := range names {
		steps, named := stepsByWords(name)
		if named && len(steps) > 0 {
			ups[name] = nameByWords(steps[:len(steps)-1])
		}
	}
	right := 0
	for _, on := range names {
		q := enoughQc(c, on)
		standsOn := impl.QcOk(c, q)
		for _, name := range names {
			up, named := ups[name]
			want := standsOn && named && up == on
			if got := impl.BlockOk(c, blockOf(name, q)); got != want {
				t.Fatalf("BlockOk of %q on %v = %v", name, q, got)
			}
			if want {
				right++
			}
		}
	}
	if right < 20 {
		t.Errorf("only %d were right", right)
	}
}

func TestBlockOkAsTheWordsSay(t *testing.T) {
	for _, q := range nearQcs(qcNames(), qcLists()) {
		for _, c := range []impl.Conf{{N: 4, Fan: 1}, {N: 7, Fan: 6}, {N: 3, Fan: 1}, {N: 4, Fan: 7}} {
			for _, b := range []impl.Block{blockOf(q.Name+"/60|", q), blockOf(q.Name, q), blockOf("/60|", q)} {
				if got := impl.BlockOk(c, b); got != blockOkByWords(c, b) {
					t.Fatalf("BlockOk(%v, %v) = %v", c, b, got)
				}
			}
		}
	}
	for _, c := range allConfs() {
		all := qcOf(2, "/2|", setOfBits(1<<max(0, min(c.N, 20))-1)...)
		if impl.BlockOk(c, blockOf("/1|", impl.QcFirst())) != confOkByWords(c) || impl.BlockOk(c, blockOf("/2|/3|", all)) != confOkByWords(c) {
			t.Errorf("BlockOk of %v", c)
		}
	}
}

func TestBlockOkOfWhatIsNoName(t *testing.T) {
	c := impl.Conf{N: 4, Fan: 2}
	for _, name := range slices.Concat(wrongNames(), unsureNames()) {
		cut := max(strings.LastIndex(name, "/"), 0)
		for _, on := range []string{"", name, name[:cut]} {
			b := blockOf(name, enoughQc(c, on))
			if got := impl.BlockOk(c, b); got != blockOkByWords(c, b) {
				t.Fatalf("BlockOk(%v) = %v", b, got)
			}
		}
	}
}

func TestBlockNew(t *testing.T) {
	c := impl.Conf{N: 4, Fan: 2}
	five, high := impl.Tx{To: 1, Amount: 5}, impl.Tx{From: 3, To: 2, Amount: 1000, Nonce: 99}
	first, one := impl.QcFirst(), qcOf(1, "/1|", 0, 1, 2)
	nine := qcOf(9, "/2|0>1:5#0/9|", 1, 2, 3)
	lower, almost, full := nameByWords(chainOf(viewsFrom(1, 28)...)), nameByWords(chainOf(viewsFrom(1, 29)...)), nameByWords(chainOf(viewsFrom(1, 30)...))
	cases := []struct {
		name string
		c    impl.Conf
		q    impl.Qc
		view int
		list []impl.Tx
		want string // its Name; none: zero and false
	}{
		{"on the first certificate", c, first, 1, nil, "/1|"},
		{"on the first certificate, an empty list", c, impl.Qc{Who: []int{}}, 1, []impl.Tx{}, "/1|"},
		{"on the first certificate, a greater view", c, first, 17, nil, "/17|"},
		{"on the first certificate, the greatest view", c, first, impl.MaxView, []impl.Tx{five}, "/60|0>1:5#0"},
		{"on a certificate of view 1", c, one, 2, nil, "/1|/2|"},
		{"on a certificate of view 1, a greater view", c, one, 4, []impl.Tx{{To: 1}}, "/1|/4|0>1:0#0"},
		{"on a certificate of view 1, the greatest view", c, one, 60, nil, "/1|/60|"},
		{"two payments", c, nine, 10, []impl.Tx{high, five}, "/2|0>1:5#0/9|/10|3>2:1000#99,0>1:5#0"},
		{"one payment twice", c, nine, 11, []impl.Tx{five, five}, "/2|0>1:5#0/9|/11|0>1:5#0,0>1:5#0"},
		{"one below the greatest height", c, qcOf(28, lower, 0, 1, 2), 29, nil, lower + "/29|"},
		{"the greatest height", c, qcOf(29, almost, 0, 1, 2), 30, nil, almost + "/30|"},
		{"of seven", impl.Conf{N: 7, Fan: 1}, qcOf(1, "/1|", 0, 2, 3, 4, 6), 2, nil, "/1|/2|"},

		{"the view of the certificate", c, one, 1, nil, ""},
		{"the view of the certificate, further on", c, nine, 9, []impl.Tx{five}, ""},
		{"one below it", c, nine, 8, nil, ""},
		{"the view of a step ahead", c, nine, 2, nil, ""},
		{"the first view", c, nine, 1, nil, ""},
		{"less by its digits alone", c, qcOf(10, "/10|", 0, 1, 2), 9, nil, ""},
		{"view 0", c, one, 0, nil, ""},
		{"view 0, on the first certificate", c, first, 0, nil, ""},
		{"below 0", c, one, -2, nil, ""},
		{"below 0, on the first certificate", c, first, -1, nil, ""},
		{"one above the greatest view", c, first, impl.MaxView + 1, nil, ""},
		{"one above the greatest view, on the last one", c, qcOf(60, "/60|", 0, 1, 2), 61, nil, ""},
		{"the greatest view, on itself", c, qcOf(60, "/60|", 0, 1, 2), 60, nil, ""},
		{"the same low bits", c, first, 1<<32 + 1, nil, ""},
		{"the least int", c, one, math.MinInt, nil, ""},
		{"the greatest int", c, one, math.MaxInt, nil, ""},
		{"the least int, on the first certificate", c, first, math.MinInt, nil, ""},
		{"the greatest int, on the first certificate", c, first, math.MaxInt, nil, ""},

		{"one payment too many", c, one, 2, []impl.Tx{five, five, five}, ""},
		{"a From that is none", c, one, 2, []impl.Tx{{From: 4}}, ""},
		{"a To below 0", c, first, 1, []impl.Tx{{To: -1}}, ""},
		{"an Amount too great, behind a right one", c, first, 1, []impl.Tx{five, {Amount: 1001}}, ""},
		{"a Nonce too great, ahead of a right one", c, first, 1, []impl.Tx{{Nonce: 100}, five}, ""},
		{"one more than the greatest height", c, qcOf(30, full, 0, 1, 2), 31, nil, ""},

		{"no Conf", impl.Conf{}, first, 1, nil, ""},
		{"N one too few", impl.Conf{N: 3, Fan: 2}, first, 1, nil, ""},
		{"N one too many", impl.Conf{N: 8, Fan: 2}, first, 1, nil, ""},
		{"Fan one too few", impl.Conf{N: 4, Fan: 0}, one, 2, nil, ""},
		{"Fan one too many", impl.Conf{N: 4, Fan: 7}, one, 2, nil, ""},

		{"the first certificate, another view", c, qcOf(1, ""), 2, nil, ""},
		{"the first certificate, somebody", c, qcOf(0, "", 0, 1, 2), 1, nil, ""},
		{"a view below that of its name", c, qcOf(1, "/3|", 0, 1, 2), 4, nil, ""},
		{"a view below that of its name, the block between", c, qcOf(1, "/3|", 0, 1, 2), 2, nil, ""},
		{"a view above that of its name", c, qcOf(5, "/3|", 0, 1, 2), 6, nil, ""},
		{"a view above that of its name, the block between", c, qcOf(5, "/3|", 0, 1, 2), 4, nil, ""},
		{"too few", c, qcOf(1, "/1|", 0, 1), 2, nil, ""},
		{"nobody", c, qcOf(1, "/1|"), 2, nil, ""},
		{"no set", c, qcOf(1, "/1|", 0, 2, 1), 2, nil, ""},
		{"one twice", c, qcOf(1, "/1|", 0, 0, 1), 2, nil, ""},
		{"one that is N", c, qcOf(1, "/1|", 0, 1, 2, 4), 2, nil, ""},
		{"on no name", c, qcOf(0, "?", 0, 1, 2), 2, nil, ""},
		{"on half a step", c, qcOf(1, "/1", 0, 1, 2), 2, nil, ""},
		{"on a name and a mark", c, qcOf(1, "/1|/", 0, 1, 2), 2, nil, ""},
		{"on a name and a comma", c, qcOf(0, "/1|0>1:5#0,", 0, 1, 2), 2, nil, ""},
	}
	for _, x := range cases {
		b, ok := impl.BlockNew(x.c, x.q, x.view, x.list)
		if x.want == "" {
			if ok || !isZeroBlock(b) {
				t.Errorf("%s: BlockNew(%v, %v, %d, %v) = %v, %v", x.name, x.c, x.q, x.view, x.list, b, ok)
			}
			continue
		}
		if !ok || !sameBlock(b, blockOf(x.want, x.q)) {
			t.Errorf("%s: BlockNew(%v, %v, %d, %v) = %v, %v, want %q", x.name, x.c, x.q, x.view, x.list, b, ok, x.want)
		}
	}
}

// checkBlockNew holds one answer against the document's words, and what is told
// true of against promise 8. It tells whether that was so.
func checkBlockNew(t *testing.T, c impl.Conf, q impl.Qc, view int, list []impl.Tx) bool {
	t.Helper()
	b, ok := impl.BlockNew(c, q, view, list)
	want, wantOk := blockNewByWords(c, q, view, list)
	if ok != wantOk || !sameBlock(b, want) {
		t.Fatalf("BlockNew(%v, %v, %d, %v) = %v, %v, want %v, %v", c, q, view, list, b, ok, want, wantOk)
	}
	if ok {
		checkAbove(t, c, b, view)
	}
	return ok
}

func checkAbove(t *testing.T, c impl.Conf, b impl.Block, view int) {
	t.Helper()
	if !impl.BlockOk(c, b) || impl.ViewOf(b.Name) != view || viewByWords(b.Name) != view {
		t.Fatalf("%v is not a right block of view %d", b, view)
	}
	if view <= b.Qc.View || view <= impl.ViewOf(impl.UpOf(b.Name)) || !impl.Extends(b.Name, b.Qc.Name) || impl.Height(b.Name) != impl.Height(b.Qc.Name)+1 {
		t.Fatalf("%v is not above what it stands on", b)
	}
}

func TestBlockNewAtEachView(t *testing.T) {
	c := impl.Conf{N: 5, Fan: 3}
	for _, on := range rightNames() {
		for view := -3; view <= 70; view++ {
			checkBlockNew(t, c, enoughQc(c, on), view, nil)
		}
		for _, view := range blockViews(viewByWords(on)) {
			checkBlockNew(t, c, enoughQc(c, on), view, []impl.Tx{{From: 1, To: 2, Amount: 3, Nonce: 4}})
		}
	}
}

func TestBlockNewWithEachList(t *testing.T) {
	for _, c := range []impl.Conf{{N: 4, Fan: 1}, {N: 7, Fan: 6}} {
		for _, on := range rightNames() {
			for _, list := range blockLists() {
				for _, view := range []int{viewByWords(on) + 1, viewByWords(on), 60} {
					checkBlockNew(t, c, enoughQc(c, on), view, list)
				}
			}
		}
	}
}

func TestBlockNewOnEachCertificate(t *testing.T) {
	for _, q := range slices.Concat(pairQcs(), nearQcs(qcNames(), qcLists())) {
		for _, c := range []impl.Conf{{N: 4, Fan: 1}, {N: 7, Fan: 6}, {N: 3, Fan: 1}, {N: 4, Fan: 7}} {
			for _, view := range []int{1, q.View, viewByWords(q.Name) + 1, 60} {
				checkBlockNew(t, c, q, view, nil)
			}
		}
	}
	for _, name := range wrongNames() {
		for _, view := range []int{0, 1, 2, 60} {
			checkBlockNew(t, impl.Conf{N: 4, Fan: 2}, qcOf(view, name, 0, 1, 2), 60, nil)
		}
	}
	for _, c := range allConfs() {
		if got := checkBlockNew(t, c, impl.QcFirst(), 1, nil); got != confOkByWords(c) {
			t.Errorf("BlockNew of %v: %v", c, got)
		}
	}
}

// TestABlocksViewIsAboveThatOfWhatItStandsOn lets chains grow as far as blocks
// are told, each on the certificate of the one before it.
func TestABlocksViewIsAboveThatOfWhatItStandsOn(t *testing.T) {
	lists := [][]impl.Tx{nil, {{To: 1, Amount: 5}}, {{From: 2, To: 3, Amount: 1000, Nonce: 99}, {}}}
	for _, c := range rightConfs() {
		for stride := 1; stride <= 4; stride++ {
			q, height := impl.QcFirst(), 0
			for {
				view := q.View + stride
				for below := -1; below <= q.View; below++ {
					if b, ok := impl.BlockNew(c, q, below, nil); ok || !isZeroBlock(b) {
						t.Fatalf("%v: a block of view %d on %v: %v", c, below, q, b)
					}
				}
				b, ok := impl.BlockNew(c, q, view, lists[height%3])
				if !ok {
					break
				}
				checkAbove(t, c, b, view)
				q, height = enoughQc(c, b.Name), height+1
			}
			if want := min(impl.MaxHeight, impl.MaxView/stride); height != want {
				t.Fatalf("%v: in strides of %d the chain has %d steps, want %d", c, stride, height, want)
			}
		}
	}
}

// TestWhatIsBlockOkIsAbove takes blocks that were not made by BlockNew.
func TestWhatIsBlockOkIsAbove(t *testing.T) {
	c := impl.Conf{N: 4, Fan: 2}
	right := 0
	for first := -1; first <= 12; first++ {
		for second := -1; second <= 12; second++ {
			for view := -1; view <= 12; view++ {
				on := nameByWords([]impl.Step{{View: first}})
				b := blockOf(on+nameByWords([]impl.Step{{View: second}}), qcOf(view, on, 0, 1, 2))
				ok := impl.BlockOk(c, b)
				if ok != (view == first && first >= 1 && second > first) {
					t.Fatalf("BlockOk(%v) = %v", b, ok)
				}
				if ok {
					checkAbove(t, c, b, second)
					right++
				}
			}
		}
	}
	if right != 66 {
		t.Errorf("%d were right", right)
	}
}

// pairBlocks has blocks that differ from each other in little, right ones and
// wrong ones. The first two are alike.
func pairBlocks() []impl.Block {
	out := []impl.Block{{}, blockOf("", impl.Qc{Who: []int{}})}
	for _, name := range []string{"", "/3|/4|", "/3|", "/3|/5|", "/3|/4|0>1:5#0", "/3|/4", "3", "0", "x"} {
		for _, q := range pairQcs()[2:] {
			out = append(out, blockOf(name, q))
		}
	}
	return out
}

func TestBlockSame(t *testing.T) {
	b := blockOf("/3|/4|", qcOf(3, "/3|", 0, 1, 2))
	wrong := blockOf("x", qcOf(-7, "y", 9, 1, 9))
	cases := []struct {
		name string
		a, b impl.Block
		want bool
	}{
		{"itself", b, b, true},
		{"alike", b, cloneBlock(b), true},
		{"zero", impl.Block{}, impl.Block{}, true},
		{"zero and the beginning on the first certificate", impl.Block{}, blockOf("", impl.QcFirst()), true},
		{"nil and an empty list", blockOf("/1|", impl.QcFirst()), blockOf("/1|", impl.Qc{Who: []int{}}), true},
		{"nil and an empty list, of a certificate", blockOf("/3|/4|", impl.Qc{View: 3, Name: "/3|"}), blockOf("/3|/4|", impl.Qc{View: 3, Name: "/3|", Who: []int{}}), true},
		{"another name", b, blockOf("/3|/5|", b.Qc), false},
		{"a name that goes on", b, blockOf("/3|/4|0>1:5#0", b.Qc), false},
		{"a name that is shorter", b, blockOf("/3|", b.Qc), false},
		{"no name", b, blockOf("", b.Qc), false},
		{"the names the other way round", b, blockOf("/3|", qcOf(3, "/3|/4|", 0, 1, 2)), false},
		{"another view of the certificate", b, blockOf(b.Name, qcOf(4, "/3|", 0, 1, 2)), false},
		{"its view below 0", b, blockOf(b.Name, qcOf(-3, "/3|", 0, 1, 2)), false},
		{"the same low bits of its view", b, blockOf(b.Name, qcOf(1<<32+3, "/3|", 0, 1, 2)), false},
		{"another name of the certificate", b, blockOf(b.Name, qcOf(3, "/1|/3|", 0, 1, 2)), false},
		{"no name of the certificate", b, blockOf(b.Name, qcOf(3, "", 0, 1, 2)), false},
		{"another voter", b, blockOf(b.Name, qcOf(3, "/3|", 0, 1, 3)), false},
		{"one voter more", b, blockOf(b.Name, qcOf(3, "/3|", 0, 1, 2, 3)), false},
		{"one voter fewer", b, blockOf(b.Name, qcOf(3, "/3|", 0, 1)), false},
		{"nobody", b, blockOf(b.Name, qcOf(3, "/3|")), false},
		{"voters in another order", b, blockOf(b.Name, qcOf(3, "/3|", 0, 2, 1)), false},
		{"a voter twice", b, blockOf(b.Name, qcOf(3, "/3|", 0, 1, 2, 2)), false},
		{"nobody and 0", blockOf("/1|", qcOf(0, "")), blockOf("/1|", qcOf(0, "", 0)), false},
		{"one of two digits and two of one", blockOf("/1|", qcOf(0, "", 12)), blockOf("/1|", qcOf(0, "", 1, 2)), false},
		{"digits cut at another place", blockOf("/1|", qcOf(0, "", 1, 23)), blockOf("/1|", qcOf(0, "", 12, 3)), false},
		{"a voter below 0", blockOf("/1|", qcOf(0, "", 1, -2)), blockOf("/1|", qcOf(0, "", 1, 2)), false},
		{"the view against the first voter", blockOf("/1|", qcOf(1, "", 2, 3)), blockOf("/1|", qcOf(12, "", 3)), false},
		{"the ends of int", blockOf("/1|", qcOf(math.MinInt, "", math.MaxInt)), blockOf("/1|", qcOf(math.MaxInt, "", math.MinInt)), false},
		{"not BlockOk, alike", wrong, cloneBlock(wrong), true},
		{"not BlockOk, another name", wrong, blockOf("z", wrong.Qc), false},
		{"not BlockOk, another order", wrong, blockOf("x", qcOf(-7, "y", 9, 9, 1)), false},
		{"not BlockOk, the names the other way round", wrong, blockOf("y", qcOf(-7, "x", 9, 1, 9)), false},
		{"bytes that are no text", blockOf("\xff", qcOf(0, "")), blockOf("\xfe", qcOf(0, "")), false},
	}
	for _, c := range cases {
		if impl.BlockSame(c.a, c.b) != c.want || impl.BlockSame(c.b, c.a) != c.want {
			t.Errorf("%s: BlockSame(%v, %v) is not %v", c.name, c.a, c.b, c.want)
		}
	}
}

func TestBlockSameOfEachTwo(t *testing.T) {
	others := pairBlocks()
	for i, a := range pairBlocks() {
		for j, b := range others {
			want := i == j || i < 2 && j < 2
			if impl.BlockSame(a, b) != want || sameBlock(a, b) != want {
				t.Fatalf("BlockSame(%v, %v) is not %v", a, b, want)
			}
		}
	}
	lists := append(shortLists(3, -1, 0, 1, 2, 12, 21), oddLists()...)
	for _, a := range lists {
		for _, b := range lists {
			got := impl.BlockSame(blockOf("/3|/4|", qcOf(3, "/3|", a...)), blockOf("/3|/4|", qcOf(3, "/3|", b...)))
			if got != slices.Equal(a, b) {
				t.Fatalf("BlockSame with %v and with %v = %v", a, b, got)
			}
		}
	}
}

// checkBlockMemory writes into all that went in and came out: none of it may
// be seen elsewhere.
func checkBlockMemory(t *testing.T, c impl.Conf, q impl.Qc, view int, list []impl.Tx) {
	t.Helper()
	givenQc, wholeWho := qcWithRoom(q)
	givenTxs, wholeTxs := poolWithRoom(list)
	beforeWho, beforeTxs := slices.Clone(wholeWho), slices.Clone(wholeTxs)
	untouched := func() bool {
		return slices.Equal(wholeWho, beforeWho) && slices.Equal(wholeTxs, beforeTxs) && sameQc(givenQc, q)
	}
	got, ok := impl.BlockNew(c, givenQc, view, givenTxs)
	again, _ := impl.BlockNew(c, givenQc, view, givenTxs)
	impl.BlockOk(c, blockOf(got.Name, givenQc))
	impl.BlockSame(blockOf(got.Name, givenQc), got)
	if !untouched() {
		t.Fatalf("%v, %d, %v: an argument was written into", q, view, list)
	}
	want := cloneBlock(got)
	spoilInts(got.Qc.Who)
	if !untouched() {
		t.Fatalf("BlockNew(%v, %d, %v) shares memory with an argument", q, view, list)
	}
	if !sameBlock(again, want) {
		t.Fatalf("BlockNew(%v, %d, %v): an answer shares memory with an earlier one", q, view, list)
	}
	spoilInts(wholeWho)
	spoilTxs(wholeTxs)
	if !sameBlock(again, want) || impl.BlockOk(c, again) != ok {
		t.Fatalf("BlockNew(%v, %d, %v): an answer changes with an argument", q, view, list)
	}
}

func TestBlocksAreNewMemory(t *testing.T) {
	c := impl.Conf{N: 4, Fan: 2}
	for _, q := range append(pairQcs(), enoughQc(c, rightNames()[10])) {
		for _, list := range blockLists()[:20] {
			for _, view := range []int{0, 1, 3, 4, 60, 61} {
				checkBlockMemory(t, c, q, view, list)
			}
		}
	}
}

// TestBlocksDoNotReadBehindTheirLists hands in lists with what would change the
// answer right behind them.
func TestBlocksDoNotReadBehindTheirLists(t *testing.T) {
	c := impl.Conf{N: 4, Fan: 2}
	who := []int{0, 1, 2, 3}
	txs := []impl.Tx{{To: 1}, {To: 2, Nonce: 1}, {To: 3, Nonce: 2}}
	short, enough := qcOf(3, "/3|", who[:2]...), qcOf(3, "/3|", who[:3]...)
	if _, ok := impl.BlockNew(c, short, 4, nil); ok || impl.BlockOk(c, blockOf("/3|/4|", short)) {
		t.Error("who stands behind the list has voted")
	}
	if b, ok := impl.BlockNew(c, enough, 4, txs[:2]); !ok || b.Name != "/3|/4|0>1:0#0,0>2:0#1" || len(b.Qc.Who) != 3 {
		t.Error(b, ok)
	}
	if impl.BlockSame(blockOf("/3|/4|", short), blockOf("/3|/4|", enough)) || !impl.BlockSame(blockOf("/3|/4|", short), blockOf("/3|/4|", qcOf(3, "/3|", 0, 1))) {
		t.Error("BlockSame reads behind Who")
	}
	if !impl.BlockSame(blockOf("/1|", impl.Qc{Who: who[:0]}), blockOf("/1|", impl.QcFirst())) || !impl.BlockOk(c, blockOf("/1|", impl.Qc{Who: who[:0]})) {
		t.Error("nobody, with room behind, is not the beginning")
	}
}

// TestGreatBlocks has names, voters and payments far beyond what is right.
func TestGreatBlocks(t *testing.T) {
	who := make([]int, 50000)
	for i := range who {
		who[i] = i
	}
	name := strings.Repeat("/1|", 50000)
	c := impl.Conf{N: 4, Fan: 2}
	great := blockOf(name+"/2|", qcOf(1, name, who...))
	if impl.BlockOk(c, great) || impl.BlockOk(c, blockOf("/1|/2|", qcOf(1, "/1|", who...))) || impl.BlockOk(c, blockOf(name, impl.QcFirst())) {
		t.Error("BlockOk of a great one")
	}
	for _, q := range []impl.Qc{great.Qc, qcOf(1, "/1|", who...), qcOf(1, name, 0, 1, 2)} {
		if b, ok := impl.BlockNew(c, q, 2, nil); ok || !isZeroBlock(b) {
			t.Error("BlockNew on a great one")
		}
	}
	if b, ok := impl.BlockNew(c, impl.QcFirst(), 1, make([]impl.Tx, 50000)); ok || !isZeroBlock(b) {
		t.Error("BlockNew with very many payments")
	}
	other := blockOf(great.Name, qcOf(1, name, who[1:]...))
	if !impl.BlockSame(great, cloneBlock(great)) || impl.BlockSame(great, other) || impl.BlockSame(great, blockOf(name, great.Qc)) {
		t.Error("BlockSame of great ones")
	}
}
