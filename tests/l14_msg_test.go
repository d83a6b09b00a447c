package tests

import (
	"bytes"
	"math"
	"slices"
	"strings"
	"sync"
	"testing"

	"loop.example/g00448/impl"
)

// The kinds are written out, so that one that was turned is seen.
const (
	kindBlock = 1
	kindPart  = 2
	kindView  = 3
	kindTx    = 4
)

func blockMsg(b impl.Block) impl.Msg { return impl.Msg{Kind: kindBlock, Block: b} }

func partMsg(p impl.Part) impl.Msg { return impl.Msg{Kind: kindPart, Part: p} }

func viewMsg(view, who int, q impl.Qc) impl.Msg {
	return impl.Msg{Kind: kindView, View: view, Who: who, Qc: q}
}

func txMsg(x impl.Tx) impl.Msg { return impl.Msg{Kind: kindTx, Tx: x} }

func cloneMsg(m impl.Msg) impl.Msg {
	m.Block, m.Part, m.Qc = cloneBlock(m.Block), clonePart(m.Part), cloneQc(m.Qc)
	return m
}

func sameMsg(a, b impl.Msg) bool {
	return a.Kind == b.Kind && a.View == b.View && sameBlock(a.Block, b.Block) && samePart(a.Part, b.Part) &&
		sameQc(a.Qc, b.Qc) && a.Who == b.Who && a.Tx == b.Tx
}

func txOkByWords(x impl.Tx) bool {
	return x.From >= 0 && x.From < 4 && x.To >= 0 && x.To < 4 && x.Amount >= 0 && x.Amount <= 1000 && x.Nonce >= 0 && x.Nonce <= 99
}

// msgOkByWords is a second reading of what the document says.
func msgOkByWords(c impl.Conf, m impl.Msg) bool {
	if !confOkByWords(c) {
		return false
	}
	noView, noWho, noTx := m.View == 0, m.Who == 0, m.Tx == impl.Tx{}
	noBlock, noPart, noQc := isZeroBlock(m.Block), samePart(m.Part, impl.Part{}), sameQc(m.Qc, impl.Qc{})
	switch m.Kind {
	case kindBlock:
		return blockOkByWords(c, m.Block) && noView && noPart && noQc && noWho && noTx
	case kindPart:
		return partOkByWords(c, m.Part) && m.Part.Name != "" && noView && noBlock && noQc && noWho && noTx
	case kindView:
		named := m.View >= 1 && m.View <= 60 && qcOkByWords(c, m.Qc) && m.Who >= 0 && m.Who < c.N
		return named && noBlock && noPart && noTx
	case kindTx:
		return txOkByWords(m.Tx) && noView && noBlock && noPart && noQc && noWho
	}
	return false
}

// msgWritten writes as the document says, whether or not it is right what is
// written so.
func msgWritten(m impl.Msg) []byte {
	kind := numWritten(m.Kind)
	switch m.Kind {
	case kindBlock:
		return slices.Concat(kind, textWritten(m.Block.Name), qcWritten(m.Block.Qc))
	case kindPart:
		return slices.Concat(kind, numWritten(m.Part.View), textWritten(m.Part.Name), numWritten(len(m.Part.Who)), numsWritten(m.Part.Who...))
	case kindView:
		return slices.Concat(kind, numsWritten(m.View, m.Who), qcWritten(m.Qc))
	case kindTx:
		return slices.Concat(kind, numsWritten(m.Tx.From, m.Tx.To, m.Tx.Amount, m.Tx.Nonce))
	}
	return kind
}

// msgRead takes what it can; what is not there is zero.
func msgRead(b []byte) impl.Msg {
	kind, at := numRead(b)
	num := func() int {
		n, used := numRead(b[at:])
		at += used
		return n
	}
	switch kind {
	case kindBlock:
		name, used := textRead(b[at:])
		q, _ := qcRead(b[at+used:])
		return blockMsg(blockOf(name, q))
	case kindPart:
		q, _ := qcRead(b[at:])
		return partMsg(partOf(q.View, q.Name, q.Who...))
	case kindView:
		view := num()
		who := num()
		q, _ := qcRead(b[at:])
		return viewMsg(view, who, q)
	case kindTx:
		from := num()
		to := num()
		amount := num()
		return txMsg(impl.Tx{From: from, To: to, Amount: amount, Nonce: num()})
	}
	return impl.Msg{Kind: kind}
}

func msgOfByWords(c impl.Conf, b []byte) (impl.Msg, bool) {
	m := msgRead(b)
	if !msgOkByWords(c, m) || !bytes.Equal(msgWritten(m), b) {
		return impl.Msg{}, false
	}
	return m, true
}

// fewMsgs has two right ones of four replicas of each kind, with something in
// each field that their kind names.
func fewMsgs() []impl.Msg {
	return []impl.Msg{
		blockMsg(blockOf("/2|/3|0>1:5#0", qcOf(2, "/2|", 0, 1, 3))),
		blockMsg(blockOf("/1|", impl.QcFirst())),
		partMsg(partOf(3, "/2|/3|", 1, 2)),
		partMsg(partOf(60, "/60|", 0, 1, 2, 3)),
		viewMsg(5, 2, qcOf(4, "/1|/4|", 1, 2, 3)),
		viewMsg(1, 0, impl.QcFirst()),
		txMsg(impl.Tx{From: 1, To: 2, Amount: 300, Nonce: 4}),
		txMsg(impl.Tx{}),
	}
}

// rightMsgs has many of each kind, up to each limit.
func rightMsgs(c impl.Conf) []impl.Msg {
	var out []impl.Msg
	for _, b := range rightBlocks(c) {
		out = append(out, blockMsg(b))
	}
	for _, name := range rightNames()[1:] {
		for _, bits := range []int{1, 2, 5, 10, 1<<c.N - 1, 1 << (c.N - 1)} {
			out = append(out, partMsg(partOf(viewByWords(name), name, setOfBits(bits)...)))
		}
	}
	for i, q := range rightQcs(c) {
		for _, view := range []int{1, 2, 30, 59, 60, 1 + i%60} {
			out = append(out, viewMsg(view, (i+view)%c.N, q))
		}
	}
	for who := range c.N {
		out = append(out, viewMsg(60-who, who, impl.QcFirst()))
	}
	for _, x := range sampleTxs() {
		out = append(out, txMsg(x))
	}
	return out
}

// wrongMsgs has, of each kind, each field that is named wrong alone, for four
// replicas.
func wrongMsgs() []impl.Msg {
	var out []impl.Msg
	for _, b := range wrongBlocks() {
		out = append(out, blockMsg(b))
	}
	for _, p := range []impl.Part{partOf(3, "/2|/3|", 0, 1), partOf(60, "/60|", 0, 1, 2, 3)} {
		for _, spoilt := range spoiltParts(p) {
			out = append(out, partMsg(spoilt))
		}
		out = append(out, partMsg(partOf(p.View, "", p.Who...)))
	}
	two := qcOf(2, "/2|", 0, 1, 2)
	for _, n := range []int{-1, -2, -60, 61, 62, 128, 1 << 31, 1 << 32, 1<<32 + 3, math.MinInt, math.MaxInt} {
		out = append(out, viewMsg(n, 1, two), viewMsg(3, n, two))
	}
	out = append(out, viewMsg(0, 1, two), viewMsg(3, 4, two), viewMsg(3, 5, two), viewMsg(0, 0, impl.QcFirst()))
	for _, q := range wrongQcs() {
		out = append(out, viewMsg(3, 1, q))
	}
	for _, x := range wrongTxs() {
		out = append(out, txMsg(x))
	}
	for _, kind := range noKinds() {
		out = append(out, impl.Msg{Kind: kind})
	}
	return out
}

func noKinds() []int {
	return []int{0, 5, 6, -1, -2, -4, 10, 127, 128, 129, 256 + 1, 1 << 31, 1<<32 + 1, 1<<32 + 4, -1 << 32, math.MinInt, math.MinInt + 1, math.MaxInt}
}

// turned is a message of which one field was turned.
type turned struct {
	field string
	msg   impl.Msg
}

type msgNumber struct {
	field string
	of    func(*impl.Msg) *int
}

type msgText struct {
	field string
	of    func(*impl.Msg) *string
}

type msgList struct {
	field string
	of    func(*impl.Msg) *[]int
}

func msgNumbers() []msgNumber {
	return []msgNumber{
		{"Kind", func(m *impl.Msg) *int { return &m.Kind }},
		{"View", func(m *impl.Msg) *int { return &m.View }},
		{"Block.Qc.View", func(m *impl.Msg) *int { return &m.Block.Qc.View }},
		{"Part.View", func(m *impl.Msg) *int { return &m.Part.View }},
		{"Qc.View", func(m *impl.Msg) *int { return &m.Qc.View }},
		{"Who", func(m *impl.Msg) *int { return &m.Who }},
		{"Tx.From", func(m *impl.Msg) *int { return &m.Tx.From }},
		{"Tx.To", func(m *impl.Msg) *int { return &m.Tx.To }},
		{"Tx.Amount", func(m *impl.Msg) *int { return &m.Tx.Amount }},
		{"Tx.Nonce", func(m *impl.Msg) *int { return &m.Tx.Nonce }},
	}
}

func msgTexts() []msgText {
	return []msgText{
		{"Block.Name", func(m *impl.Msg) *string { return &m.Block.Name }},
		{"Block.Qc.Name", func(m *impl.Msg) *string { return &m.Block.Qc.Name }},
		{"Part.Name", func(m *impl.Msg) *string { return &m.Part.Name }},
		{"Qc.Name", func(m *impl.Msg) *string { return &m.Qc.Name }},
	}
}

func msgLists() []msgList {
	return []msgList{
		{"Block.Qc.Who", func(m *impl.Msg) *[]int { return &m.Block.Qc.Who }},
		{"Part.Who", func(m *impl.Msg) *[]int { return &m.Part.Who }},
		{"Qc.Who", func(m *impl.Msg) *[]int { return &m.Qc.Who }},
	}
}

func otherNumbers(n int) []int {
	return []int{n + 1, n - 1, n + 2, n + 60, n ^ 128, n ^ 1<<32, n ^ math.MinInt}
}

func otherTexts(s string) []string {
	out := []string{s + "/60|", s + "/61|", "/1|" + s, s + "x", s + "\x00", s + " "}
	if s != "" {
		out = append(out, "", s[1:], s[:len(s)-1], s[:len(s)-1]+"0", strings.Replace(s, "/", "|", 1))
	}
	return slices.DeleteFunc(out, func(other string) bool { return other == s })
}

// otherLists has the last one turned, the first one, the length, and the order.
func otherLists(s []int) [][]int {
	out := [][]int{slices.Concat(s, []int{0}), slices.Concat(s, []int{3}), slices.Concat(s, []int{-1}), slices.Concat([]int{0}, s)}
	if len(s) > 0 {
		ahead, last := s[:len(s)-1], s[len(s)-1]
		out = append(out, nil, ahead, s[1:], slices.Concat(ahead, []int{last + 1}), slices.Concat(ahead, []int{last ^ 1<<32}), slices.Concat([]int{s[0] - 1}, s[1:]))
	}
	if len(s) > 1 {
		back := slices.Clone(s)
		slices.Reverse(back)
		out = append(out, back)
	}
	return slices.DeleteFunc(out, func(other []int) bool { return slices.Equal(other, s) })
}

// turnedMsgs has m with each single field turned to several others.
func turnedMsgs(m impl.Msg) []turned {
	var out []turned
	for _, f := range msgNumbers() {
		for _, n := range otherNumbers(*f.of(&m)) {
			other := cloneMsg(m)
			*f.of(&other) = n
			out = append(out, turned{f.field, other})
		}
	}
	for _, f := range msgTexts() {
		for _, s := range otherTexts(*f.of(&m)) {
			other := cloneMsg(m)
			*f.of(&other) = s
			out = append(out, turned{f.field, other})
		}
	}
	for _, f := range msgLists() {
		for _, list := range otherLists(*f.of(&m)) {
			other := cloneMsg(m)
			*f.of(&other) = list
			out = append(out, turned{f.field, other})
		}
	}
	return out
}

// namedBy tells whether a message of that kind names the field.
func namedBy(kind int, field string) bool {
	outer, _, _ := strings.Cut(field, ".")
	named := map[int][]string{kindBlock: {"Block"}, kindPart: {"Part"}, kindView: {"View", "Qc", "Who"}, kindTx: {"Tx"}}
	return outer == "Kind" || slices.Contains(named[kind], outer)
}

// mixedMsgs has, of each kind, what is right of it beside what is right of
// another kind: one field of that, or all of them.
func mixedMsgs() []impl.Msg {
	var out []impl.Msg
	for _, m := range fewMsgs() {
		for _, other := range fewMsgs() {
			one, all := m, other
			one.Block, all.Kind = other.Block, m.Kind
			out = append(out, one, all)
			one = m
			one.Part = other.Part
			out = append(out, one)
			one = m
			one.Qc = other.Qc
			out = append(out, one)
			one = m
			one.Block.Qc, one.Part.Who = other.Qc, other.Part.Who
			out = append(out, one)
			one = m
			one.View, one.Who, one.Tx = other.View, other.Who, other.Tx
			out = append(out, one)
		}
	}
	full := impl.Msg{View: 5, Block: fewMsgs()[0].Block, Part: fewMsgs()[2].Part, Qc: fewMsgs()[4].Qc, Who: 2, Tx: fewMsgs()[6].Tx}
	for kind := range 6 {
		full.Kind = kind
		out = append(out, full)
	}
	return out
}

func allMsgs(c impl.Conf) []impl.Msg {
	out := slices.Concat(fewMsgs(), rightMsgs(c), wrongMsgs(), mixedMsgs())
	for _, m := range fewMsgs() {
		for _, other := range turnedMsgs(m) {
			out = append(out, other.msg)
		}
	}
	return out
}

func TestMsgKinds(t *testing.T) {
	if impl.MgBlock != kindBlock || impl.MgPart != kindPart || impl.MgView != kindView || impl.MgTx != kindTx {
		t.Error(impl.MgBlock, impl.MgPart, impl.MgView, impl.MgTx)
	}
}

type msgOkCase struct {
	name string
	c    impl.Conf
	m    impl.Msg
	want bool
}

func checkMsgOkCases(t *testing.T, cases []msgOkCase) {
	t.Helper()
	for _, k := range cases {
		if got := impl.MsgOk(k.c, k.m); got != k.want {
			t.Errorf("%s: MsgOk(%v, %v) = %v", k.name, k.c, k.m, got)
		}
		if got := msgOkByWords(k.c, k.m); got != k.want {
			t.Errorf("%s: the second reading is %v", k.name, got)
		}
	}
}

func TestMsgOkOfBlocks(t *testing.T) {
	four, seven := impl.Conf{N: 4, Fan: 2}, impl.Conf{N: 7, Fan: 6}
	first, two := impl.QcFirst(), qcOf(2, "/2|", 0, 1, 2)
	almost, full := nameByWords(chainOf(viewsFrom(1, 29)...)), nameByWords(chainOf(viewsFrom(1, 30)...))
	checkMsgOkCases(t, []msgOkCase{
		{"on the first certificate", four, blockMsg(blockOf("/1|", first)), true},
		{"on a later one", four, blockMsg(blockOf("/2|/3|0>1:5#0", two)), true},
		{"with empty lists", four, impl.Msg{Kind: kindBlock, Block: blockOf("/1|", impl.Qc{Who: []int{}}), Part: impl.Part{Who: []int{}}, Qc: impl.Qc{Who: []int{}}}, true},
		{"of seven", seven, blockMsg(blockOf("/2|/3|", qcOf(2, "/2|", 0, 1, 2, 3, 6))), true},
		{"as high as there is", four, blockMsg(blockOf(full, enoughQc(four, almost))), true},
		{"the greatest view", four, blockMsg(blockOf("/2|/60|", two)), true},

		{"no block", four, impl.Msg{Kind: kindBlock}, false},
		{"the beginning", four, blockMsg(blockOf("", first)), false},
		{"the beginning on a later one", four, blockMsg(blockOf("", two)), false},
		{"no name", four, blockMsg(blockOf("/2|/3", two)), false},
		{"a view too great", four, blockMsg(blockOf("/2|/61|", two)), false},
		{"the view of its certificate", four, blockMsg(blockOf("/2|/2|", two)), false},
		{"one step too high", four, blockMsg(blockOf(full+"/31|", enoughQc(four, full))), false},
		{"not on its certificate", four, blockMsg(blockOf("/1|/3|", two)), false},
		{"two steps behind its certificate", four, blockMsg(blockOf("/2|/3|/4|", two)), false},
		{"a certificate of too few", four, blockMsg(blockOf("/2|/3|", qcOf(2, "/2|", 0, 1))), false},
		{"a certificate of too few of seven", seven, blockMsg(blockOf("/2|/3|", qcOf(2, "/2|", 0, 1, 2, 3))), false},
		{"a certificate of another view", four, blockMsg(blockOf("/2|/3|", qcOf(1, "/2|", 0, 1, 2))), false},
		{"a certificate of no set", four, blockMsg(blockOf("/2|/3|", qcOf(2, "/2|", 0, 2, 1))), false},
		{"a certificate of one that is N", four, blockMsg(blockOf("/2|/3|", qcOf(2, "/2|", 0, 1, 4))), false},
		{"the Conf zero", impl.Conf{}, blockMsg(blockOf("/1|", first)), false},
		{"N one too few", impl.Conf{N: 3, Fan: 2}, blockMsg(blockOf("/1|", first)), false},
		{"N one too many", impl.Conf{N: 8, Fan: 2}, blockMsg(blockOf("/1|", first)), false},
		{"Fan one too few", impl.Conf{N: 4, Fan: 0}, blockMsg(blockOf("/1|", first)), false},
		{"Fan one too many", impl.Conf{N: 4, Fan: 7}, blockMsg(blockOf("/1|", first)), false},
	})
}

func TestMsgOkOfParts(t *testing.T) {
	four, seven := impl.Conf{N: 4, Fan: 2}, impl.Conf{N: 7, Fan: 6}
	full := nameByWords(chainOf(viewsFrom(1, 30)...))
	checkMsgOkCases(t, []msgOkCase{
		{"one vote", four, partMsg(partOf(3, "/2|/3|", 1)), true},
		{"the first view", four, partMsg(partOf(1, "/1|", 0)), true},
		{"the greatest view", four, partMsg(partOf(60, "/60|", 3)), true},
		{"all", four, partMsg(partOf(3, "/3|", 0, 1, 2, 3)), true},
		{"all of seven", seven, partMsg(partOf(30, full, 0, 1, 2, 3, 4, 5, 6)), true},
		{"with empty lists", four, impl.Msg{Kind: kindPart, Part: partOf(3, "/3|", 2), Block: blockOf("", impl.Qc{Who: []int{}}), Qc: impl.Qc{Who: []int{}}}, true},

		{"no part", four, impl.Msg{Kind: kindPart}, false},
		{"without a name, which is a right part", four, partMsg(partOf(3, "", 1)), false},
		{"without a name, all", four, partMsg(partOf(60, "", 0, 1, 2, 3)), false},
		{"without a name, View 0", four, partMsg(partOf(0, "", 1)), false},
		{"View 0", four, partMsg(partOf(0, "/3|", 1)), false},
		{"View 0 of view 0", four, partMsg(partOf(0, "/0|", 1)), false},
		{"View -3", four, partMsg(partOf(-3, "/3|", 1)), false},
		{"a View below its name's", four, partMsg(partOf(2, "/3|", 1)), false},
		{"a View above its name's", four, partMsg(partOf(4, "/3|", 1)), false},
		{"a View too great", four, partMsg(partOf(61, "/61|", 1)), false},
		{"a name that is none", four, partMsg(partOf(3, "/3", 1)), false},
		{"a name one step too high", four, partMsg(partOf(31, full+"/31|", 1)), false},
		{"nobody", four, partMsg(partOf(3, "/3|")), false},
		{"nobody, an empty list", four, partMsg(impl.Part{View: 3, Name: "/3|", Who: []int{}}), false},
		{"the wrong order", four, partMsg(partOf(3, "/3|", 2, 1)), false},
		{"one twice", four, partMsg(partOf(3, "/3|", 1, 1)), false},
		{"one below 0", four, partMsg(partOf(3, "/3|", -1)), false},
		{"one that is N", four, partMsg(partOf(3, "/3|", 4)), false},
		{"one that is N, of seven", seven, partMsg(partOf(3, "/3|", 0, 7)), false},
		{"the Conf zero", impl.Conf{}, partMsg(partOf(3, "/3|", 1)), false},
		{"N one too few", impl.Conf{N: 3, Fan: 2}, partMsg(partOf(3, "/3|", 1)), false},
		{"N one too many", impl.Conf{N: 8, Fan: 2}, partMsg(partOf(3, "/3|", 1)), false},
		{"Fan one too few", impl.Conf{N: 4, Fan: 0}, partMsg(partOf(3, "/3|", 1)), false},
		{"Fan one too many", impl.Conf{N: 4, Fan: 7}, partMsg(partOf(3, "/3|", 1)), false},
	})
}

func TestMsgOkOfViews(t *testing.T) {
	four, seven := impl.Conf{N: 4, Fan: 2}, impl.Conf{N: 7, Fan: 6}
	first, two := impl.QcFirst(), qcOf(2, "/2|", 0, 1, 2)
	checkMsgOkCases(t, []msgOkCase{
		{"ordinary", four, viewMsg(3, 1, two), true},
		{"View 1", four, viewMsg(1, 1, two), true},
		{"View MaxView", four, viewMsg(impl.MaxView, 1, two), true},
		{"a View below that of its certificate", four, viewMsg(1, 1, qcOf(60, "/60|", 1, 2, 3)), true},
		{"the first certificate", four, viewMsg(3, 1, first), true},
		{"Who 0", four, viewMsg(3, 0, two), true},
		{"Who N - 1", four, viewMsg(3, 3, two), true},
		{"Who N - 1 of seven", seven, viewMsg(3, 6, first), true},
		{"with empty lists", four, impl.Msg{Kind: kindView, View: 3, Who: 1, Qc: impl.Qc{Who: []int{}}, Block: blockOf("", impl.Qc{Who: []int{}}), Part: impl.Part{Who: []int{}}}, true},

		{"no view", four, impl.Msg{Kind: kindView}, false},
		{"View 0", four, viewMsg(0, 1, two), false},
		{"View -1", four, viewMsg(-1, 1, two), false},
		{"View MaxView + 1", four, viewMsg(impl.MaxView+1, 1, two), false},
		{"the same low bits of View", four, viewMsg(1<<32+3, 1, two), false},
		{"the least View", four, viewMsg(math.MinInt, 1, two), false},
		{"the greatest View", four, viewMsg(math.MaxInt, 1, two), false},
		{"Who -1", four, viewMsg(3, -1, two), false},
		{"Who N", four, viewMsg(3, 4, two), false},
		{"Who N of seven", seven, viewMsg(3, 7, first), false},
		{"the same low bits of Who", four, viewMsg(3, 1<<32+1, two), false},
		{"the least Who", four, viewMsg(3, math.MinInt, two), false},
		{"the greatest Who", four, viewMsg(3, math.MaxInt, two), false},
		{"a certificate of too few", four, viewMsg(3, 1, qcOf(2, "/2|", 0, 1)), false},
		{"a certificate of too few of seven", seven, viewMsg(3, 1, two), false},
		{"a certificate of nobody", four, viewMsg(3, 1, qcOf(2, "/2|")), false},
		{"a certificate of another view", four, viewMsg(3, 1, qcOf(3, "/2|", 0, 1, 2)), false},
		{"a certificate of no name", four, viewMsg(3, 1, qcOf(2, "/2", 0, 1, 2)), false},
		{"a certificate of no set", four, viewMsg(3, 1, qcOf(2, "/2|", 2, 1, 0)), false},
		{"a certificate of one that is N", four, viewMsg(3, 1, qcOf(2, "/2|", 0, 1, 4)), false},
		{"the first certificate, another View", four, viewMsg(3, 1, qcOf(1, "")), false},
		{"the first certificate, enough", four, viewMsg(3, 1, qcOf(0, "", 0, 1, 2)), false},
		{"the Conf zero", impl.Conf{}, viewMsg(3, 0, first), false},
		{"N one too few", impl.Conf{N: 3, Fan: 2}, viewMsg(3, 1, first), false},
		{"N one too many", impl.Conf{N: 8, Fan: 2}, viewMsg(3, 1, first), false},
		{"Fan one too few", impl.Conf{N: 4, Fan: 0}, viewMsg(3, 1, first), false},
		{"Fan one too many", impl.Conf{N: 4, Fan: 7}, viewMsg(3, 1, first), false},
	})
}

func TestMsgOkOfPayments(t *testing.T) {
	four := impl.Conf{N: 4, Fan: 2}
	five := impl.Tx{To: 1, Amount: 5}
	checkMsgOkCases(t, []msgOkCase{
		{"ordinary", four, txMsg(impl.Tx{From: 1, To: 2, Amount: 30, Nonce: 4}), true},
		{"all zero", four, txMsg(impl.Tx{}), true},
		{"all at their limits", four, txMsg(impl.Tx{From: 3, To: 3, Amount: 1000, Nonce: 99}), true},
		{"with empty lists", four, impl.Msg{Kind: kindTx, Tx: five, Block: blockOf("", impl.Qc{Who: []int{}}), Part: impl.Part{Who: []int{}}, Qc: impl.Qc{Who: []int{}}}, true},

		{"From 4", four, txMsg(impl.Tx{From: 4}), false},
		{"From -1", four, txMsg(impl.Tx{From: -1}), false},
		{"To 4", four, txMsg(impl.Tx{To: 4}), false},
		{"To -1", four, txMsg(impl.Tx{To: -1}), false},
		{"Amount 1001", four, txMsg(impl.Tx{Amount: 1001}), false},
		{"Amount -1", four, txMsg(impl.Tx{Amount: -1}), false},
		{"Nonce 100", four, txMsg(impl.Tx{Nonce: 100}), false},
		{"Nonce -1", four, txMsg(impl.Tx{Nonce: -1}), false},
		{"an account of seven replicas", impl.Conf{N: 7, Fan: 2}, txMsg(impl.Tx{From: 6}), false},
		{"the Conf zero", impl.Conf{}, txMsg(five), false},
		{"N one too few", impl.Conf{N: 3, Fan: 2}, txMsg(five), false},
		{"N one too many", impl.Conf{N: 8, Fan: 2}, txMsg(five), false},
		{"Fan one too few", impl.Conf{N: 4, Fan: 0}, txMsg(five), false},
		{"Fan one too many", impl.Conf{N: 4, Fan: 7}, txMsg(five), false},
	})
}

// checkRefused has a message that is not right, which is not written either.
func checkRefused(t *testing.T, what string, c impl.Conf, m impl.Msg) {
	t.Helper()
	if impl.MsgOk(c, m) {
		t.Fatalf("%s: MsgOk(%v, %v) is true", what, c, m)
	}
	if b := impl.MsgBytes(c, m); len(b) != 0 {
		t.Fatalf("%s: MsgBytes(%v, %v) = %q", what, c, m, b)
	}
}

// TestMessagesOfNoKind has what is right of each kind, under a kind that is
// none, and what is right of one kind under each other one.
func TestMessagesOfNoKind(t *testing.T) {
	c := impl.Conf{N: 4, Fan: 2}
	checkRefused(t, "zero", c, impl.Msg{})
	for _, m := range append(fewMsgs(), mixedMsgs()...) {
		for _, kind := range noKinds() {
			m.Kind = kind
			checkRefused(t, "no kind", c, m)
		}
	}
	for i, m := range fewMsgs() {
		right := m.Kind
		for kind := 1; kind <= 4; kind++ {
			m.Kind = kind
			// Nothing at all is a right payment, but no other thing.
			if kind != right && i < 7 {
				checkRefused(t, "another kind", c, m)
			}
		}
	}
}

// TestWhatIsNotNamedIsZero has each field alone that is not named: each number,
// each text, and each list, in structs too, and what would be right elsewhere.
func TestWhatIsNotNamedIsZero(t *testing.T) {
	c := impl.Conf{N: 4, Fan: 2}
	for _, m := range fewMsgs() {
		strays := 0
		for _, other := range turnedMsgs(m) {
			if !namedBy(m.Kind, other.field) {
				checkRefused(t, other.field, c, other.msg)
				strays++
			}
		}
		if strays < 30 {
			t.Errorf("kind %d: only %d were not named", m.Kind, strays)
		}
	}
	for _, m := range mixedMsgs() {
		if got := impl.MsgOk(c, m); got != msgOkByWords(c, m) {
			t.Fatalf("MsgOk(%v) = %v", m, got)
		}
	}
}

func TestMsgOkAsTheWordsSay(t *testing.T) {
	for _, c := range []impl.Conf{{N: 4, Fan: 2}, {N: 5, Fan: 1}, {N: 6, Fan: 3}, {N: 7, Fan: 6}} {
		for _, m := range rightMsgs(c) {
			if !impl.MsgOk(c, m) || !msgOkByWords(c, m) {
				t.Fatalf("MsgOk(%v, %v) is false", c, m)
			}
		}
	}
	four := impl.Conf{N: 4, Fan: 2}
	for _, m := range wrongMsgs() {
		checkRefused(t, "wrong", four, m)
	}
	for _, c := range allConfs() {
		for _, m := range append(fewMsgs(), viewMsg(3, 4, impl.QcFirst()), viewMsg(3, 6, impl.QcFirst()), partMsg(partOf(3, "/3|", 4)), partMsg(partOf(3, "/3|", 6))) {
			if got := impl.MsgOk(c, m); got != msgOkByWords(c, m) {
				t.Fatalf("MsgOk(%v, %v) = %v", c, m, got)
			}
		}
	}
	for _, m := range allMsgs(four) {
		if got := impl.MsgOk(four, m); got != msgOkByWords(four, m) {
			t.Fatalf("MsgOk(%v) = %v", m, got)
		}
	}
	for n := -70; n <= 130; n++ {
		for _, m := range []impl.Msg{viewMsg(n, 0, impl.QcFirst()), viewMsg(1, n, impl.QcFirst()), {Kind: n, Block: blockOf("/1|", impl.QcFirst())}, {Kind: n}} {
			if got := impl.MsgOk(four, m); got != msgOkByWords(four, m) {
				t.Fatalf("MsgOk(%v) = %v", m, got)
			}
		}
	}
}

// TestMsgOkOfNearOnes has certificates, parts and blocks near to right ones in
// messages of the kind that names them.
func TestMsgOkOfNearOnes(t *testing.T) {
	c := impl.Conf{N: 4, Fan: 2}
	for _, q := range nearQcs(qcNames(), qcLists()) {
		for _, m := range []impl.Msg{viewMsg(3, 1, q), partMsg(impl.Part(q)), blockMsg(blockOf(q.Name+"/60|", q)), {Kind: kindTx, Qc: q}} {
			if got := impl.MsgOk(c, m); got != msgOkByWords(c, m) {
				t.Fatalf("MsgOk(%v) = %v", m, got)
			}
		}
	}
	for _, name := range slices.Concat(rightNames(), wrongNames(), unsureNames()) {
		view, up := viewByWords(name), name[:max(strings.LastIndex(name, "/"), 0)]
		for _, m := range []impl.Msg{partMsg(partOf(view, name, 1)), partMsg(partOf(2, name, 1)), viewMsg(3, 1, enoughQc(c, name)), blockMsg(blockOf(name, enoughQc(c, up)))} {
			if got := impl.MsgOk(c, m); got != msgOkByWords(c, m) {
				t.Fatalf("MsgOk(%v) = %v", m, got)
			}
		}
	}
}

func TestMsgSame(t *testing.T) {
	wrong := impl.Msg{Kind: -7, View: 99, Block: blockOf("x", qcOf(-1, "y", 3, 1)), Part: partOf(-2, "z", 9, 9), Qc: qcOf(61, "?", -4), Who: -5, Tx: impl.Tx{From: -1, To: 9, Amount: -3, Nonce: 100}}
	empty := impl.Msg{Block: blockOf("", impl.Qc{Who: []int{}}), Part: impl.Part{Who: []int{}}, Qc: impl.Qc{Who: []int{}}}
	if !impl.MsgSame(impl.Msg{}, empty) || !impl.MsgSame(empty, impl.Msg{}) || !impl.MsgSame(empty, empty) {
		t.Error("an empty list is not nil")
	}
	for _, m := range append(append(fewMsgs(), mixedMsgs()...), wrong, impl.Msg{}) {
		if !impl.MsgSame(m, m) || !impl.MsgSame(m, cloneMsg(m)) || !impl.MsgSame(cloneMsg(m), m) {
			t.Fatalf("%v is not the same as itself", m)
		}
		for _, f := range msgLists() {
			none, nobody := cloneMsg(m), cloneMsg(m)
			*f.of(&none), *f.of(&nobody) = nil, []int{}
			if !impl.MsgSame(none, nobody) || !impl.MsgSame(nobody, none) {
				t.Fatalf("%s: an empty list is not nil", f.field)
			}
		}
		for _, other := range turnedMsgs(m) {
			if impl.MsgSame(m, other.msg) || impl.MsgSame(other.msg, m) {
				t.Fatalf("%s: %v and %v are the same", other.field, m, other.msg)
			}
		}
	}
}

// TestMsgSameOfWhatStandsElsewhere has one thing in two places of a message, and
// two things that have changed places.
func TestMsgSameOfWhatStandsElsewhere(t *testing.T) {
	q, other := qcOf(2, "/2|", 0, 1, 2), qcOf(3, "/3|", 1, 2, 3)
	apart := [][2]impl.Msg{
		{{Qc: q}, {Part: impl.Part(q)}},
		{{Qc: q}, {Block: blockOf("", q)}},
		{{Part: impl.Part(q)}, {Block: blockOf("", q)}},
		{{Qc: q, Part: impl.Part(other)}, {Qc: other, Part: impl.Part(q)}},
		{{Qc: q, Block: blockOf("/2|", other)}, {Qc: other, Block: blockOf("/2|", q)}},
		{{Block: blockOf("/2|", impl.QcFirst())}, {Block: blockOf("", qcOf(0, "/2|"))}},
		{{View: 2}, {Who: 2}},
		{{View: 2}, {Kind: 2}},
		{{View: 2, Who: 3}, {View: 3, Who: 2}},
		{{View: 2}, {Part: partOf(2, "")}},
		{{View: 2}, {Qc: qcOf(2, "")}},
		{{Tx: impl.Tx{From: 1, To: 2}}, {Tx: impl.Tx{From: 2, To: 1}}},
		{{Tx: impl.Tx{Amount: 1, Nonce: 2}}, {Tx: impl.Tx{Amount: 2, Nonce: 1}}},
		{{Qc: qcOf(0, "", 1, 12)}, {Qc: qcOf(0, "", 11, 2)}},
		{{Block: blockOf("", qcOf(0, "", 1, 12))}, {Block: blockOf("", qcOf(0, "", 11, 2))}},
	}
	for _, pair := range apart {
		if impl.MsgSame(pair[0], pair[1]) || impl.MsgSame(pair[1], pair[0]) {
			t.Errorf("%v and %v are the same", pair[0], pair[1])
		}
	}
}

func TestMsgSameOfEachTwo(t *testing.T) {
	c := impl.Conf{N: 4, Fan: 2}
	list := slices.Concat(fewMsgs(), rightMsgs(c), wrongMsgs(), mixedMsgs()[:60])
	for i, a := range list {
		for _, b := range list[:i+1] {
			want := sameMsg(a, b)
			if impl.MsgSame(a, b) != want || impl.MsgSame(b, a) != want {
				t.Fatalf("MsgSame(%v, %v) is not %v", a, b, want)
			}
		}
	}
}

func TestMsgBytes(t *testing.T) {
	four, seven := impl.Conf{N: 4, Fan: 2}, impl.Conf{N: 7, Fan: 6}
	two := qcOf(2, "/2|", 0, 1, 3)
	long := "/9|3>3:1000#99,3>3:1000#98/10|3>3:1000#97,3>3:1000#96/11|3>3:1000#95,3>3:1000#94/12|3>3:1000#93,3>3:1000#92/13|0>1:1#0,1>2:3#4/14|"
	cases := []struct {
		name string
		c    impl.Conf
		m    impl.Msg
		want string
	}{
		{"a block on the first certificate", four, blockMsg(blockOf("/1|", impl.QcFirst())), "\x01\x03/1|\x00\x00\x00"},
		{"a block with a payment", four, blockMsg(blockOf("/10|0>1:5#0", impl.QcFirst())), "\x01\x0b/10|0>1:5#0\x00\x00\x00"},
		{"a block on a later one", four, blockMsg(blockOf("/2|/3|", two)), "\x01\x06/2|/3|\x02\x03/2|\x03\x00\x01\x03"},
		{"a block of seven", seven, blockMsg(blockOf("/2|/60|", qcOf(2, "/2|", 0, 2, 3, 5, 6))), "\x01\x07/2|/60|\x02\x03/2|\x05\x00\x02\x03\x05\x06"},
		{"a block of a long name", four, blockMsg(blockOf(long+"/15|", qcOf(14, long, 0, 1, 2))), "\x01\x86\x01" + long + "/15|\x0e\x82\x01" + long + "\x03\x00\x01\x02"},
		{"a part of one", four, partMsg(partOf(1, "/1|", 2)), "\x02\x01\x03/1|\x01\x02"},
		{"a part of all", four, partMsg(partOf(60, "/2|/60|", 0, 1, 2, 3)), "\x02\x3c\x07/2|/60|\x04\x00\x01\x02\x03"},
		{"a part of seven", seven, partMsg(partOf(3, "/3|", 0, 6)), "\x02\x03\x03/3|\x02\x00\x06"},
		{"a part of a long name", four, partMsg(partOf(14, long, 3)), "\x02\x0e\x82\x01" + long + "\x01\x03"},
		{"a view on the first certificate", four, viewMsg(2, 3, impl.QcFirst()), "\x03\x02\x03\x00\x00\x00"},
		{"a view on a later one", four, viewMsg(60, 0, two), "\x03\x3c\x00\x02\x03/2|\x03\x00\x01\x03"},
		{"a view of seven", seven, viewMsg(1, 6, qcOf(60, "/60|", 0, 1, 2, 3, 4, 5, 6)), "\x03\x01\x06\x3c\x04/60|\x07\x00\x01\x02\x03\x04\x05\x06"},
		{"a payment", four, txMsg(impl.Tx{To: 1, Amount: 9}), "\x04\x00\x01\x09\x00"},
		{"a payment of nothing", four, txMsg(impl.Tx{}), "\x04\x00\x00\x00\x00"},
		{"each number in its place", four, txMsg(impl.Tx{From: 1, To: 2, Amount: 3, Nonce: 4}), "\x04\x01\x02\x03\x04"},
		{"127", four, txMsg(impl.Tx{From: 3, To: 2, Amount: 127, Nonce: 99}), "\x04\x03\x02\x7f\x63"},
		{"128", four, txMsg(impl.Tx{From: 3, To: 2, Amount: 128, Nonce: 99}), "\x04\x03\x02\x80\x01\x63"},
		{"1000", four, txMsg(impl.Tx{From: 3, To: 3, Amount: 1000, Nonce: 99}), "\x04\x03\x03\xe8\x07\x63"},
		{"with empty lists", four, impl.Msg{Kind: kindTx, Block: blockOf("", impl.Qc{Who: []int{}}), Part: impl.Part{Who: []int{}}, Qc: impl.Qc{Who: []int{}}}, "\x04\x00\x00\x00\x00"},

		{"zero", four, impl.Msg{}, ""},
		{"kind 5", four, impl.Msg{Kind: 5}, ""},
		{"a kind below 0", four, impl.Msg{Kind: -1}, ""},
		{"a block that is none", four, blockMsg(blockOf("/2|", two)), ""},
		{"a block on too few", four, blockMsg(blockOf("/2|/3|", qcOf(2, "/2|", 0, 1))), ""},
		{"a block of seven, of four", four, blockMsg(blockOf("/2|/60|", qcOf(2, "/2|", 0, 2, 3, 5, 6))), ""},
		{"a part of no View", four, partMsg(partOf(0, "/1|", 2)), ""},
		{"a part of another View", four, partMsg(partOf(2, "/1|", 2)), ""},
		{"a part without a name", four, partMsg(partOf(1, "", 2)), ""},
		{"a part of nobody", four, partMsg(partOf(1, "/1|")), ""},
		{"a part of N", four, partMsg(partOf(1, "/1|", 4)), ""},
		{"View 0", four, viewMsg(0, 3, two), ""},
		{"View 61", four, viewMsg(61, 3, two), ""},
		{"Who N", four, viewMsg(2, 4, two), ""},
		{"Who -1", four, viewMsg(2, -1, two), ""},
		{"a view on too few", four, viewMsg(2, 3, qcOf(2, "/2|", 0, 1)), ""},
		{"a payment of too much", four, txMsg(impl.Tx{Amount: 1001}), ""},
		{"a payment that is in View 1", four, impl.Msg{Kind: kindTx, View: 1}, ""},
		{"a part that somebody is told of", four, impl.Msg{Kind: kindPart, Part: partOf(1, "/1|", 2), Who: 2}, ""},
		{"the Conf zero", impl.Conf{}, txMsg(impl.Tx{}), ""},
		{"N one too few", impl.Conf{N: 3, Fan: 2}, viewMsg(2, 1, impl.QcFirst()), ""},
		{"Fan one too many", impl.Conf{N: 4, Fan: 7}, partMsg(partOf(1, "/1|", 2)), ""},
	}
	for _, k := range cases {
		if got := impl.MsgBytes(k.c, k.m); string(got) != k.want {
			t.Errorf("%s: MsgBytes = %q, want %q", k.name, got, k.want)
		}
	}
}

// checkSaid holds what is written of m against the second reading, and reads it
// again.
func checkSaid(t *testing.T, c impl.Conf, m impl.Msg) {
	t.Helper()
	b := impl.MsgBytes(c, m)
	if !msgOkByWords(c, m) {
		checkRefused(t, "wrong", c, m)
		return
	}
	if !impl.MsgOk(c, m) || !bytes.Equal(b, msgWritten(m)) {
		t.Fatalf("MsgBytes(%v, %v) = %q", c, m, b)
	}
	got, ok := impl.MsgOf(c, b)
	if !ok || !sameMsg(got, m) || !impl.MsgSame(got, m) || !impl.MsgOk(c, got) {
		t.Fatalf("MsgOf of what is written of %v = %v, %v", m, got, ok)
	}
	if again := impl.MsgBytes(c, got); !bytes.Equal(again, b) {
		t.Fatalf("MsgBytes of what is read of %q = %q", b, again)
	}
}

func TestWhatIsSaidIsReadAsItWas(t *testing.T) {
	four := impl.Conf{N: 4, Fan: 2}
	for _, c := range []impl.Conf{four, {N: 5, Fan: 1}, {N: 6, Fan: 3}, {N: 7, Fan: 6}} {
		for _, m := range allMsgs(c) {
			checkSaid(t, c, m)
		}
	}
	for _, c := range allConfs() {
		for _, m := range append(fewMsgs(), viewMsg(60, c.N-1, impl.QcFirst())) {
			checkSaid(t, c, m)
		}
	}
	for _, x := range sampleTxs() {
		for amount := -1; amount <= 1001; amount++ {
			x.Amount = amount
			checkSaid(t, four, txMsg(x))
		}
	}
	for view := -1; view <= 62; view++ {
		name := nameByWords(chainOf(view))
		for who := -1; who <= 4; who++ {
			checkSaid(t, four, viewMsg(view, who, impl.QcFirst()))
			checkSaid(t, four, partMsg(partOf(view, name, who)))
		}
		checkSaid(t, four, blockMsg(blockOf(name, impl.QcFirst())))
		checkSaid(t, four, blockMsg(blockOf("/30|"+name, qcOf(30, "/30|", 1, 2, 3))))
		checkSaid(t, four, viewMsg(1, 1, qcOf(view, name, 0, 1, 2, 3)))
	}
	for bits := range 1 << 8 {
		who := setOfBits(bits)
		for _, c := range []impl.Conf{four, {N: 7, Fan: 1}} {
			checkSaid(t, c, partMsg(partOf(3, "/3|", who...)))
			checkSaid(t, c, viewMsg(3, 1, qcOf(3, "/3|", who...)))
			checkSaid(t, c, blockMsg(blockOf("/3|/4|", qcOf(3, "/3|", who...))))
		}
	}
}

// TestMsgOfOfBytesMoreAndLess has what is cut at each place, and one byte more,
// any that it is.
func TestMsgOfOfBytesMoreAndLess(t *testing.T) {
	c := impl.Conf{N: 4, Fan: 2}
	refused := func(b []byte) {
		t.Helper()
		if m, ok := impl.MsgOf(c, b); ok || !sameMsg(m, impl.Msg{}) {
			t.Fatalf("MsgOf(%q) = %v, %v", b, m, ok)
		}
	}
	for _, m := range append(fewMsgs(), rightMsgs(c)...) {
		put := impl.MsgBytes(c, m)
		for cut := range put {
			refused(put[:cut])
		}
		for more := range 256 {
			refused(append(slices.Clone(put), byte(more)))
		}
		refused(append([]byte{0}, put...))
		refused(put[1:])
		refused(append(slices.Clone(put), put...))
	}
	refused(nil)
	refused([]byte{})
	for one := range 256 {
		refused([]byte{byte(one)})
	}
}

func TestMsgOfRefuses(t *testing.T) {
	four, seven := impl.Conf{N: 4, Fan: 2}, impl.Conf{N: 7, Fan: 6}
	greatest, past, below := "\xff\xff\xff\xff\x07", "\x80\x80\x80\x80\x08", string(numWritten(-1))
	block, part := "\x01\x06/2|/3|\x02\x03/2|\x03\x00\x01\x03", "\x02\x03\x06/2|/3|\x02\x01\x02"
	view, tx := "\x03\x05\x02\x04\x06/1|/4|\x03\x01\x02\x03", "\x04\x01\x02\xac\x02\x04"
	cases := []struct {
		name string
		c    impl.Conf
		b    string
	}{
		{"kind 0", four, "\x00\x01\x02\xac\x02\x04"},
		{"kind 0 alone", four, "\x00"},
		{"kind 5", four, "\x05\x01\x02\xac\x02\x04"},
		{"kind 5 alone", four, "\x05"},
		{"a kind whose low bits are right", four, "\x84\x01\x01\x02\xac\x02\x04"},
		{"the greatest kind", four, greatest + tx[1:]},
		{"a kind that is too great", four, past + tx[1:]},
		{"a kind below 0", four, below + tx[1:]},
		{"a kind that is not the shortest", four, "\x84\x00" + tx[1:]},
		{"a block's kind that is not the shortest", four, "\x81\x00" + block[1:]},

		{"a block under another kind", four, "\x02" + block[1:]},
		{"a part under another kind", four, "\x01" + part[1:]},
		{"a view under another kind", four, "\x04" + view[1:]},
		{"a payment under another kind", four, "\x03" + tx[1:]},

		{"a block of the beginning", four, "\x01\x00\x00\x00\x00"},
		{"a block not on its certificate", four, "\x01\x06/1|/3|\x02\x03/2|\x03\x00\x01\x03"},
		{"a block of no name", four, "\x01\x06/2|/3/\x02\x03/2|\x03\x00\x01\x03"},
		{"a block of view 61", four, "\x01\x07/2|/61|\x02\x03/2|\x03\x00\x01\x03"},
		{"a block on too few", four, "\x01\x06/2|/3|\x02\x03/2|\x02\x00\x01"},
		{"a block on another view", four, "\x01\x06/2|/3|\x01\x03/2|\x03\x00\x01\x03"},
		{"a block on no set", four, "\x01\x06/2|/3|\x02\x03/2|\x03\x00\x03\x01"},
		{"a block on the replica N", four, "\x01\x06/2|/3|\x02\x03/2|\x03\x00\x01\x04"},
		{"a block of a length that is not the shortest", four, "\x01\x86\x00/2|/3|\x02\x03/2|\x03\x00\x01\x03"},
		{"a block of a name longer than the bytes", four, "\x01\x7f/2|/3|\x02\x03/2|\x03\x00\x01\x03"},
		{"a block of the longest name", four, "\x01" + greatest + "/2|/3|\x02\x03/2|\x03\x00\x01\x03"},
		{"a block of a name too long", four, "\x01" + past + "/2|/3|\x02\x03/2|\x03\x00\x01\x03"},
		{"a block of a name shorter than none", four, "\x01" + below + "/2|/3|\x02\x03/2|\x03\x00\x01\x03"},
		{"a block on a view that is not the shortest", four, "\x01\x06/2|/3|\x82\x00\x03/2|\x03\x00\x01\x03"},
		{"a block on a vote that is not the shortest", four, "\x01\x06/2|/3|\x02\x03/2|\x03\x80\x00\x01\x03"},
		{"a block on many that is not the shortest", four, "\x01\x06/2|/3|\x02\x03/2|\x83\x00\x00\x01\x03"},
		{"a block on more than there are", four, "\x01\x06/2|/3|\x02\x03/2|\x04\x00\x01\x03"},
		{"a block on as many as there can be", four, "\x01\x06/2|/3|\x02\x03/2|" + greatest + "\x00\x01\x03"},
		{"a block on fewer than none", four, "\x01\x06/2|/3|\x02\x03/2|" + below + "\x00\x01\x03"},
		{"a block without its certificate", four, "\x01\x06/2|/3|"},
		{"a block, its certificate ahead", four, "\x01\x02\x03/2|\x03\x00\x01\x03\x06/2|/3|"},
		{"a block of a Conf of more", seven, block},

		{"a part of View 0", four, "\x02\x00\x06/2|/3|\x02\x01\x02"},
		{"a part of another View", four, "\x02\x04\x06/2|/3|\x02\x01\x02"},
		{"a part of view 61", four, "\x02\x3d\x04/61|\x02\x01\x02"},
		{"a part of a View that is too great", four, "\x02" + past + "\x06/2|/3|\x02\x01\x02"},
		{"a part without a name", four, "\x02\x03\x00\x02\x01\x02"},
		{"a part of no name", four, "\x02\x03\x06/2|/3/\x02\x01\x02"},
		{"a part of nobody", four, "\x02\x03\x06/2|/3|\x00"},
		{"a part, how many left away", four, "\x02\x03\x06/2|/3|"},
		{"a part of no set", four, "\x02\x03\x06/2|/3|\x02\x02\x01"},
		{"a part of one twice", four, "\x02\x03\x06/2|/3|\x02\x01\x01"},
		{"a part of the replica N", four, "\x02\x03\x06/2|/3|\x02\x01\x04"},
		{"a part of one below 0", four, "\x02\x03\x06/2|/3|\x02" + below + "\x01"},
		{"a part of one that is too great", four, "\x02\x03\x06/2|/3|\x02\x01" + past},
		{"a part of one more than there are", four, "\x02\x03\x06/2|/3|\x03\x01\x02"},
		{"a part of one fewer than there are", four, "\x02\x03\x06/2|/3|\x01\x01\x02"},
		{"a part of many more than there are", four, "\x02\x03\x06/2|/3|\x7f\x01\x02"},
		{"a part of as many as there can be", four, "\x02\x03\x06/2|/3|" + greatest + "\x01\x02"},
		{"a part of more than there can be", four, "\x02\x03\x06/2|/3|" + past + "\x01\x02"},
		{"a part of fewer than none", four, "\x02\x03\x06/2|/3|" + below + "\x01\x02"},
		{"a part of eight of seven", seven, "\x02\x03\x06/2|/3|\x08\x00\x01\x02\x03\x04\x05\x06\x07"},
		{"a part of eight of seven, one twice", seven, "\x02\x03\x06/2|/3|\x08\x00\x01\x02\x03\x04\x05\x06\x06"},
		{"a part of a View that is not the shortest", four, "\x02\x83\x00\x06/2|/3|\x02\x01\x02"},
		{"a part of a length that is not the shortest", four, "\x02\x03\x86\x00/2|/3|\x02\x01\x02"},
		{"a part of many that is not the shortest", four, "\x02\x03\x06/2|/3|\x82\x00\x01\x02"},
		{"a part of one that is not the shortest", four, "\x02\x03\x06/2|/3|\x02\x01\x82\x00"},
		{"a part of a Conf that is none", impl.Conf{N: 8, Fan: 2}, part},

		{"View 0", four, "\x03\x00\x02\x04\x06/1|/4|\x03\x01\x02\x03"},
		{"View 61", four, "\x03\x3d\x02\x04\x06/1|/4|\x03\x01\x02\x03"},
		{"a View that is too great", four, "\x03" + past + "\x02\x04\x06/1|/4|\x03\x01\x02\x03"},
		{"a View below 0", four, "\x03" + below + "\x02\x04\x06/1|/4|\x03\x01\x02\x03"},
		{"a View that is not the shortest", four, "\x03\x85\x00\x02\x04\x06/1|/4|\x03\x01\x02\x03"},
		{"Who N", four, "\x03\x05\x04\x04\x06/1|/4|\x03\x01\x02\x03"},
		{"Who of two bytes", four, "\x03\x05\x82\x01\x04\x06/1|/4|\x03\x01\x02\x03"},
		{"Who below 0", four, "\x03\x05" + below + "\x04\x06/1|/4|\x03\x01\x02\x03"},
		{"Who that is not the shortest", four, "\x03\x05\x82\x00\x04\x06/1|/4|\x03\x01\x02\x03"},
		{"Who left away", four, "\x03\x05\x04\x06/1|/4|\x03\x01\x02\x03"},
		{"View and Who the other way round", four, "\x03\x02\x05\x04\x06/1|/4|\x03\x01\x02\x03"},
		{"a view on too few", four, "\x03\x05\x02\x04\x06/1|/4|\x02\x01\x02"},
		{"a view on another view", four, "\x03\x05\x02\x05\x06/1|/4|\x03\x01\x02\x03"},
		{"a view on no name", four, "\x03\x05\x02\x04\x06/1|/4/\x03\x01\x02\x03"},
		{"a view on the beginning with votes", four, "\x03\x05\x02\x00\x00\x03\x01\x02\x03"},
		{"a view without a certificate", four, "\x03\x05\x02"},
		{"a view on more than there are", four, "\x03\x05\x02\x04\x06/1|/4|\x04\x01\x02\x03"},
		{"a view on as many as there can be", four, "\x03\x05\x02\x04\x06/1|/4|" + greatest + "\x01\x02\x03"},
		{"a view on the first certificate that is not the shortest", four, "\x03\x05\x02\x00\x00\x80\x00"},
		{"a view of a Conf of more", seven, view},
		{"a view of a Conf that is none", impl.Conf{N: 4, Fan: 0}, "\x03\x05\x02\x00\x00\x00"},

		{"From 4", four, "\x04\x04\x02\xac\x02\x04"},
		{"To 4", four, "\x04\x01\x04\xac\x02\x04"},
		{"Amount 1001", four, "\x04\x01\x02\xe9\x07\x04"},
		{"Amount that is not the shortest", four, "\x04\x01\x02\xac\x82\x00\x04"},
		{"Amount that is too great", four, "\x04\x01\x02" + past + "\x04"},
		{"Amount below 0", four, "\x04\x01\x02" + below + "\x04"},
		{"Nonce 100", four, "\x04\x01\x02\xac\x02\x64"},
		{"Nonce that is not the shortest", four, "\x04\x01\x02\xac\x02\x84\x00"},
		{"From that is not the shortest", four, "\x04\x81\x00\x02\xac\x02\x04"},
		{"To of all bits", four, "\x04\x01" + greatest + "\xac\x02\x04"},
		{"Nonce that does not end", four, "\x04\x01\x02\xac\x02\x84"},
		{"Nonce left away", four, "\x04\x01\x02\xac\x02"},
		{"a payment of the Conf zero", impl.Conf{}, tx},
		{"a payment of a Conf that is none", impl.Conf{N: 3, Fan: 2}, tx},
	}
	for _, k := range cases {
		if m, ok := impl.MsgOf(k.c, []byte(k.b)); ok || !sameMsg(m, impl.Msg{}) {
			t.Errorf("%s: MsgOf = %v, %v, want zero, false", k.name, m, ok)
		}
		if _, ok := msgOfByWords(k.c, []byte(k.b)); ok {
			t.Errorf("%s: the second reading is true", k.name)
		}
	}
	for b, want := range map[string]impl.Msg{
		block: blockMsg(blockOf("/2|/3|", qcOf(2, "/2|", 0, 1, 3))),
		part:  partMsg(partOf(3, "/2|/3|", 1, 2)),
		view:  viewMsg(5, 2, qcOf(4, "/1|/4|", 1, 2, 3)),
		tx:    txMsg(impl.Tx{From: 1, To: 2, Amount: 300, Nonce: 4}),
	} {
		if m, ok := impl.MsgOf(four, []byte(b)); !ok || !sameMsg(m, want) {
			t.Errorf("what all of these are near to: MsgOf(%q) = %v, %v, want %v", b, m, ok, want)
		}
	}
}

func checkMsgOf(t *testing.T, c impl.Conf, b []byte) bool {
	t.Helper()
	got, ok := impl.MsgOf(c, b)
	want, wantOk := msgOfByWords(c, b)
	if ok != wantOk || !sameMsg(got, want) {
		t.Fatalf("MsgOf(%v, %q) = %v, %v, want %v, %v", c, b, got, ok, want, wantOk)
	}
	return ok
}

// TestMsgOfOfWhatIsWrittenSo has the bytes of messages, right and wrong.
func TestMsgOfOfWhatIsWrittenSo(t *testing.T) {
	four := impl.Conf{N: 4, Fan: 2}
	for _, m := range allMsgs(four) {
		checkMsgOf(t, four, msgWritten(m))
	}
	for _, m := range wrongMsgs() {
		if got, ok := impl.MsgOf(four, msgWritten(m)); ok || !sameMsg(got, impl.Msg{}) {
			t.Fatalf("MsgOf of what is written of %v = %v, %v", m, got, ok)
		}
	}
	for _, c := range allConfs() {
		for _, m := range append(fewMsgs(), viewMsg(3, 4, impl.QcFirst()), partMsg(partOf(3, "/3|", 4, 6)), viewMsg(3, 1, qcOf(2, "/2|", 0, 1, 2, 3, 4))) {
			checkMsgOf(t, c, msgWritten(m))
		}
	}
	for _, q := range slices.Concat(nearQcs(qcNames(), qcLists()), wrongQcs()) {
		for _, m := range []impl.Msg{viewMsg(3, 1, q), partMsg(impl.Part(q)), blockMsg(blockOf(q.Name+"/60|", q))} {
			checkMsgOf(t, four, msgWritten(m))
		}
	}
}

// TestMsgOfAsTheWordsSay has bytes near to right ones: cut, turned, and with each
// byte written longer than it need be, or as too great a number.
func TestMsgOfAsTheWordsSay(t *testing.T) {
	c := impl.Conf{N: 4, Fan: 2}
	read := 0
	for _, m := range fewMsgs() {
		b := msgWritten(m)
		for _, near := range append(nearBytes(b), b) {
			if checkMsgOf(t, c, near) {
				read++
			}
		}
		for i := range b {
			for other := range 256 {
				near := slices.Clone(b)
				near[i] = byte(other)
				if checkMsgOf(t, c, near) {
					read++
				}
			}
			for _, other := range []string{string([]byte{b[i] | 128, 0}), string([]byte{b[i] | 128, 128, 0}), "\xff\xff\xff\xff\x07", "\x80\x80\x80\x80\x08", string(numWritten(-1))} {
				checkMsgOf(t, c, slices.Concat(b[:i], []byte(other), b[i+1:]))
			}
		}
	}
	if read < 500 {
		t.Errorf("only %d were read at all", read)
	}
}

// TestMsgOfOfEveryShortList has all short lists of a few bytes: each that is
// read is written so, and each that is written so is read.
func TestMsgOfOfEveryShortList(t *testing.T) {
	c := impl.Conf{N: 4, Fan: 2}
	read := map[int]int{}
	var walk func(b []byte, left int)
	walk = func(b []byte, left int) {
		if checkMsgOf(t, c, b) {
			read[int(b[0])]++
		}
		if left == 0 {
			return
		}
		for _, sign := range []byte{0, 1, 2, 3, 60, 128} {
			walk(append(b[:len(b):len(b)], sign), left-1)
		}
	}
	walk(nil, 4)
	walk([]byte{kindBlock, 3, '/', '1', '|'}, 5)
	walk([]byte{kindPart, 1, 3, '/', '1', '|'}, 5)
	walk([]byte{kindView}, 6)
	walk([]byte{kindTx}, 6)
	// One block; parts of one, two or three of four; four Views of four replicas
	// on the first certificate; payments of eight amounts and five numbers.
	if read[kindBlock] != 1 || read[kindPart] != 4+6+4 || read[kindView] != 4*4 || read[kindTx] != 4*4*8*5 {
		t.Errorf("so many were read: %v", read)
	}
}

// msgWithRoom is m with room behind each of its lists, in which every write is
// seen.
func msgWithRoom(m impl.Msg) (impl.Msg, [][]int) {
	var whole [][]int
	given := cloneMsg(m)
	for _, f := range msgLists() {
		list, all := listWithRoom(*f.of(&given))
		*f.of(&given) = list
		whole = append(whole, all)
	}
	return given, whole
}

func cloneLists(lists [][]int) [][]int {
	var out [][]int
	for _, list := range lists {
		out = append(out, slices.Clone(list))
	}
	return out
}

func spoilMsg(m impl.Msg) {
	for _, f := range msgLists() {
		spoilInts(*f.of(&m))
	}
}

// TestWrittenMessagesAreNewMemory calls each twice: the second answer has to
// stay, whatever happens to the first one and to the argument.
func TestWrittenMessagesAreNewMemory(t *testing.T) {
	c := impl.Conf{N: 4, Fan: 2}
	for _, m := range allMsgs(c) {
		given, whole := msgWithRoom(m)
		before := cloneLists(whole)
		got, again := impl.MsgBytes(c, given), impl.MsgBytes(c, given)
		ok, same := impl.MsgOk(c, given), impl.MsgSame(given, m)
		if !slices.EqualFunc(whole, before, slices.Equal) || !sameMsg(given, m) {
			t.Fatalf("%v was written into", m)
		}
		if ok != msgOkByWords(c, m) || !same {
			t.Fatalf("room behind the lists of %v counts: %v, %v", m, ok, same)
		}
		want := slices.Clone(got)
		spoilBytes(got)
		spoilMsg(given)
		for _, list := range whole {
			spoilInts(list)
		}
		if !bytes.Equal(again, want) || !bytes.Equal(impl.MsgBytes(c, m), want) {
			t.Fatalf("MsgBytes of %v: an answer changes with another one or with its argument", m)
		}
	}
}

// TestReadMessagesAreNewMemory hands in bytes with more of them behind their
// end, and turns all of these, and one answer, once it was read.
func TestReadMessagesAreNewMemory(t *testing.T) {
	c := impl.Conf{N: 4, Fan: 2}
	for _, m := range slices.Concat(fewMsgs(), rightMsgs(c), wrongMsgs()) {
		b := msgWritten(m)
		for _, part := range [][]byte{b, b[:len(b)-1], b[:len(b)/2], append(slices.Clone(b), 0)} {
			given, whole := bytesWithRoom(part, b)
			before := slices.Clone(whole)
			got, ok := impl.MsgOf(c, given)
			again, _ := impl.MsgOf(c, given)
			if !bytes.Equal(whole, before) {
				t.Fatalf("MsgOf of %q wrote into its argument", part)
			}
			want := cloneMsg(got)
			spoilMsg(got)
			spoilBytes(whole)
			if !sameMsg(again, want) || ok != impl.MsgOk(c, again) {
				t.Fatalf("MsgOf of %q: an answer changes with another one or with its argument", part)
			}
		}
	}
}

// TestMessagesDoNotReadBehindTheirLists has what would make it right, or another
// one, in the spare room.
func TestMessagesDoNotReadBehindTheirLists(t *testing.T) {
	c := impl.Conf{N: 4, Fan: 2}
	for _, m := range append(fewMsgs(), rightMsgs(c)...) {
		b := msgWritten(m)
		for cut := range b {
			if got, ok := impl.MsgOf(c, b[:cut]); ok || !sameMsg(got, impl.Msg{}) {
				t.Fatalf("MsgOf of %d of %q = %v, %v", cut, b, got, ok)
			}
		}
	}
	who := []int{0, 1, 2, 3}
	checkRefused(t, "votes behind a certificate's", c, viewMsg(3, 1, qcOf(2, "/2|", who[:2]...)))
	checkRefused(t, "votes behind a block's", c, blockMsg(blockOf("/2|/3|", qcOf(2, "/2|", who[:2]...))))
	checkRefused(t, "votes behind a part's", c, partMsg(partOf(3, "/3|", who[:0]...)))
	if got := impl.MsgBytes(c, partMsg(partOf(3, "/3|", who[:2]...))); string(got) != "\x02\x03\x03/3|\x02\x00\x01" {
		t.Errorf("what stands behind Who is written: %q", got)
	}
	if !impl.MsgOk(c, impl.Msg{Kind: kindTx, Part: impl.Part{Who: who[:0]}, Qc: impl.Qc{Who: who[:0]}, Block: blockOf("", impl.Qc{Who: who[:0]})}) {
		t.Error("what stands behind an empty list counts")
	}
	if impl.MsgSame(partMsg(partOf(3, "/3|", who[:2]...)), partMsg(partOf(3, "/3|", who[:3]...))) {
		t.Error("what stands behind a list makes it the same")
	}
}

// TestMessagesKeepNothing asks the same again once others were asked, of other
// kinds, right and wrong, and many at once.
func TestMessagesKeepNothing(t *testing.T) {
	c := impl.Conf{N: 4, Fan: 2}
	list := append(fewMsgs(), wrongMsgs()...)
	for _, m := range list {
		for _, other := range fewMsgs() {
			checkSaid(t, c, m)
			checkSaid(t, impl.Conf{N: 7, Fan: 1}, other)
		}
	}
	var all sync.WaitGroup
	right := make([]bool, 64)
	for i := range right {
		all.Go(func() {
			m := list[i%8]
			got, ok := impl.MsgOf(c, impl.MsgBytes(c, m))
			right[i] = ok && sameMsg(got, m) && impl.MsgSame(got, m) && impl.MsgOk(c, m)
		})
	}
	all.Wait()
	if i := slices.Index(right, false); i >= 0 {
		t.Errorf("asked at once, number %d is answered otherwise", i)
	}
}

// TestGreatMessages has messages, and bytes, that claim far more than is right,
// and have it.
func TestGreatMessages(t *testing.T) {
	c := impl.Conf{N: 4, Fan: 2}
	who, name := viewsFrom(0, 50000), strings.Repeat("/1|", 50000)
	for _, m := range []impl.Msg{
		partMsg(partOf(1, "/1|", who...)), partMsg(partOf(1, name, 1)), viewMsg(1, 1, qcOf(1, "/1|", who...)), viewMsg(1, 1, qcOf(1, name, 0, 1, 2)),
		blockMsg(blockOf(name, impl.QcFirst())), blockMsg(blockOf("/1|/2|", qcOf(1, "/1|", who...))),
		{Kind: kindTx, Part: partOf(0, "", who...)}, {Kind: kindTx, Qc: qcOf(0, name)},
	} {
		checkRefused(t, "great", c, m)
		if got, ok := impl.MsgOf(c, msgWritten(m)); m.Kind != kindTx && (ok || !sameMsg(got, impl.Msg{})) {
			t.Errorf("MsgOf of the bytes of a great message of kind %d is true", m.Kind)
		}
		if !impl.MsgSame(m, cloneMsg(m)) {
			t.Errorf("a great message of kind %d is not the same as itself", m.Kind)
		}
	}
	for kind := range 6 {
		for _, fill := range []byte{0, 1, 4, '/', 127, 128, 255} {
			b := append([]byte{byte(kind)}, bytes.Repeat([]byte{fill}, 1<<20)...)
			if m, ok := impl.MsgOf(c, b); ok || !sameMsg(m, impl.Msg{}) {
				t.Errorf("MsgOf of very many bytes %d behind kind %d is true", fill, kind)
			}
		}
	}
}
