package tests

import (
	"math"
	"slices"
	"strings"
	"sync"
	"testing"

	"loop.example/g00448/impl"
)

// saidBy has each of who tell that vote.
func saidBy(view int, name string, who ...int) []impl.Said {
	var out []impl.Said
	for _, id := range who {
		out = append(out, impl.Said{View: view, Name: name, Who: id})
	}
	return out
}

// signedByWords and those behind it are a second reading of what the document
// says.
func signedByWords(liars []int, list []impl.Said, view int, name string, who []int) bool {
	for _, id := range who {
		signs := 0
		for _, liar := range liars {
			if liar == id {
				signs++
			}
		}
		for _, s := range list {
			if s.View == view && s.Name == name && s.Who == id {
				signs++
			}
		}
		if signs == 0 {
			return false
		}
	}
	return true
}

func mayLieByWords(c impl.Conf, liars []int, list []impl.Said, m impl.Msg) bool {
	if !msgOkByWords(c, m) {
		return false
	}
	signed := func(q impl.Qc) bool {
		return q.View == 0 && q.Name == "" && len(q.Who) == 0 || signedByWords(liars, list, q.View, q.Name, q.Who)
	}
	switch m.Kind {
	case kindBlock:
		return slices.Contains(liars, rootByWords(c, viewByWords(m.Block.Name))) && signed(m.Block.Qc)
	case kindPart:
		return signedByWords(liars, list, m.Part.View, m.Part.Name, m.Part.Who)
	case kindView:
		return slices.Contains(liars, m.Who) && signed(m.Qc)
	}
	return true
}

func saidOfByWords(id int, m impl.Msg) []impl.Said {
	var view int
	var name string
	var who []int
	switch {
	case m.Kind == kindPart:
		view, name, who = m.Part.View, m.Part.Name, m.Part.Who
	case m.Kind == kindBlock:
		view, name, who = m.Block.Qc.View, m.Block.Qc.Name, m.Block.Qc.Who
	case m.Kind != kindTx:
		view, name, who = m.Qc.View, m.Qc.Name, m.Qc.Who
	}
	for _, one := range who {
		if one == id && name != "" {
			return saidBy(view, name, id)
		}
	}
	return nil
}

// votesOf has the votes that a message of its kind bears, each for itself.
func votesOf(m impl.Msg) []impl.Said {
	switch m.Kind {
	case kindBlock:
		return saidBy(m.Block.Qc.View, m.Block.Qc.Name, m.Block.Qc.Who...)
	case kindPart:
		return saidBy(m.Part.View, m.Part.Name, m.Part.Who...)
	case kindView:
		return saidBy(m.Qc.View, m.Qc.Name, m.Qc.Who...)
	}
	return nil
}

func TestSigned(t *testing.T) {
	far := []int{math.MinInt, -1, 4, 7, 1 << 32, math.MaxInt}
	all := saidBy(3, "/3|", 0, 1, 2, 3)
	for _, k := range []struct {
		name  string
		liars []int
		list  []impl.Said
		view  int
		vote  string
		who   []int
		want  bool
	}{
		{"nobody", []int{2}, all, 3, "/3|", nil, true},
		{"nobody, of nothing", nil, nil, 0, "", nil, true},
		{"nobody, empty lists", []int{}, []impl.Said{}, 3, "/3|", []int{}, true},
		{"nobody, of what nobody said", []int{2}, all, 9, "/9|", nil, true},
		{"all are liars", []int{0, 1, 3}, nil, 3, "/3|", []int{0, 1, 3}, true},
		{"all are among the liars", []int{0, 1, 2, 3}, nil, 3, "/3|", []int{1, 2}, true},
		{"one is a liar", []int{2}, nil, 3, "/3|", []int{2}, true},
		{"all said it", nil, all, 3, "/3|", []int{0, 1, 2, 3}, true},
		{"all are among who said it", nil, all, 3, "/3|", []int{1, 3}, true},
		{"one said it", nil, saidBy(3, "/3|", 2), 3, "/3|", []int{2}, true},
		{"some of each", []int{0, 2}, saidBy(3, "/3|", 1, 3), 3, "/3|", []int{0, 1, 2, 3}, true},
		{"a liar ahead of one that said it", []int{0}, saidBy(3, "/3|", 1), 3, "/3|", []int{0, 1}, true},
		{"a liar behind one that said it", []int{1}, saidBy(3, "/3|", 0), 3, "/3|", []int{0, 1}, true},
		{"a liar said it, too", []int{2}, saidBy(3, "/3|", 1, 2), 3, "/3|", []int{1, 2}, true},
		{"said twice", nil, saidBy(3, "/3|", 1, 1, 2), 3, "/3|", []int{1, 2}, true},
		{"said last", nil, append(saidBy(2, "/2|", 0, 1, 2, 3), saidBy(3, "/3|", 2)...), 3, "/3|", []int{2}, true},
		{"said another, too", nil, append(saidBy(3, "/2|/3|", 2), saidBy(3, "/3|", 2)...), 3, "/3|", []int{2}, true},

		{"no liar, and said nothing", nil, nil, 3, "/3|", []int{0}, false},
		{"empty lists", []int{}, []impl.Said{}, 3, "/3|", []int{0}, false},
		{"one is neither, the first", []int{2}, saidBy(3, "/3|", 1), 3, "/3|", []int{0, 1, 2}, false},
		{"one is neither, between", []int{2}, saidBy(3, "/3|", 0), 3, "/3|", []int{0, 1, 2}, false},
		{"one is neither, the last", []int{1}, saidBy(3, "/3|", 0), 3, "/3|", []int{0, 1, 2}, false},
		{"one is neither, twice as many are", []int{0, 0, 1}, saidBy(3, "/3|", 0, 0, 1, 1), 3, "/3|", []int{0, 1, 2}, false},
		{"said of another view", nil, saidBy(2, "/3|", 1), 3, "/3|", []int{1}, false},
		{"said of another name", nil, saidBy(3, "/2|/3|", 1), 3, "/3|", []int{1}, false},
		{"said of another view and name", nil, saidBy(2, "/2|", 1), 3, "/3|", []int{1}, false},
		{"one said another name, one said it", nil, append(saidBy(3, "/2|/3|", 1), saidBy(3, "/3|", 0)...), 3, "/3|", []int{0, 1}, false},
		{"view of one, name of another", nil, append(saidBy(3, "/2|", 1), saidBy(2, "/3|", 1)...), 3, "/3|", []int{1}, false},
		{"said of a longer name", nil, saidBy(3, "/3|0>1:5#0", 1), 3, "/3|", []int{1}, false},
		{"said of a shorter name", nil, saidBy(3, "/3", 1), 3, "/3|", []int{1}, false},
		{"said of no name", nil, saidBy(3, "", 1), 3, "/3|", []int{1}, false},
		{"the same low bits", []int{1 << 32}, saidBy(3, "/3|", 1<<32+1), 3, "/3|", []int{0}, false},
		{"the same low bits of the view", nil, saidBy(1<<32+3, "/3|", 0), 3, "/3|", []int{0}, false},
		{"another sign", []int{-2}, saidBy(3, "/3|", -2), 3, "/3|", []int{2}, false},
		{"another sign of the view", nil, saidBy(-3, "/3|", 2), 3, "/3|", []int{2}, false},
		{"a liar's number as a place", []int{3, 3}, saidBy(3, "/3|", 3), 3, "/3|", []int{0, 1}, false},

		{"who twice in a row, said", nil, saidBy(3, "/3|", 1), 3, "/3|", []int{1, 1}, true},
		{"who twice in a row, a liar", []int{1}, nil, 3, "/3|", []int{1, 1, 1}, true},
		{"who twice in a row, neither", []int{2}, saidBy(3, "/3|", 0), 3, "/3|", []int{0, 1, 1, 2}, false},
		{"in no order", []int{3}, saidBy(3, "/3|", 2, 0), 3, "/3|", []int{3, 0, 2, 0}, true},
		{"in no order, one neither", []int{3}, saidBy(3, "/3|", 2, 0), 3, "/3|", []int{3, 1, 2, 0}, false},
		{"liars in no order", []int{3, 0, 3, 1}, nil, 3, "/3|", []int{0, 1, 3}, true},
		{"the list in no order", nil, saidBy(3, "/3|", 3, 0, 1), 3, "/3|", []int{0, 1, 3}, true},

		{"far numbers are liars", far, nil, 3, "/3|", far, true},
		{"far numbers said it", nil, saidBy(3, "/3|", far...), 3, "/3|", far, true},
		{"far numbers are neither", []int{0, 1, 2, 3}, all, 3, "/3|", []int{-1}, false},
		{"N is neither", []int{0, 1, 2, 3}, all, 3, "/3|", []int{4}, false},
		{"the greatest number is neither", far[:5], all, 3, "/3|", far, false},
		{"far numbers beside a right one", far, saidBy(3, "/3|", far...), 3, "/3|", []int{0}, false},

		{"an empty name, said", nil, saidBy(3, "", 1), 3, "", []int{1}, true},
		{"an empty name, a liar", []int{1}, nil, 3, "", []int{1}, true},
		{"an empty name, neither", []int{0}, all, 3, "", []int{1}, false},
		{"the beginning, said", nil, saidBy(0, "", 1), 0, "", []int{1}, true},
		{"the beginning, neither", nil, all, 0, "", []int{1}, false},
		{"a name that is none", nil, saidBy(3, "x/\x00", 1), 3, "x/\x00", []int{1}, true},
		{"a name of another view", nil, saidBy(3, "/9|", 1), 3, "/9|", []int{1}, true},
		{"view 0, said", nil, saidBy(0, "/3|", 1), 0, "/3|", []int{1}, true},
		{"view 0, neither", nil, all, 0, "/3|", []int{1}, false},
		{"below 0, said", nil, saidBy(-3, "/3|", 1), -3, "/3|", []int{1}, true},
		{"below 0, a liar", []int{1}, nil, -3, "/3|", []int{1}, true},
		{"below 0, neither", nil, all, -3, "/3|", []int{1}, false},
		{"above MaxView, said", nil, saidBy(61, "/61|", 1), 61, "/61|", []int{1}, true},
		{"above MaxView, a liar", []int{1}, nil, math.MaxInt, "/61|", []int{1}, true},
		{"above MaxView, neither", nil, all, 61, "/61|", []int{1}, false},
	} {
		if got := impl.Signed(k.liars, k.list, k.view, k.vote, k.who); got != k.want {
			t.Errorf("%s: Signed = %v", k.name, got)
		}
		if got := signedByWords(k.liars, k.list, k.view, k.vote, k.who); got != k.want {
			t.Errorf("%s: the second reading is %v", k.name, got)
		}
	}
}

// TestSignedAsTheWordsSay has each few liars, each few that said this or another
// vote, and each few of who.
func TestSignedAsTheWordsSay(t *testing.T) {
	votes := append(saidBy(3, "/3|", -1, 0, 1, 4), saidBy(3, "/2|/3|", 0, 1)...)
	votes = append(votes, saidBy(2, "/3|", 0, 1)...)
	lists := [][]impl.Said{nil}
	for i, one := range votes {
		lists = append(lists, []impl.Said{one})
		for _, other := range votes[:i+1] {
			lists = append(lists, []impl.Said{one, other})
		}
	}
	signed, not := 0, 0
	for _, liars := range shortLists(2, -1, 0, 1, 4) {
		for _, who := range shortLists(3, -1, 0, 1, 4) {
			for _, list := range lists {
				got := impl.Signed(liars, list, 3, "/3|", who)
				if got != signedByWords(liars, list, 3, "/3|", who) {
					t.Fatalf("Signed(%v, %v, of %v) = %v", liars, list, who, got)
				}
				if got {
					signed++
				} else {
					not++
				}
			}
		}
	}
	for _, view := range []int{-61, -3, -1, 0, 1, 2, 3, 59, 60, 61, math.MinInt, math.MaxInt} {
		for _, name := range []string{"", "/", "/2|", "/3|", "/2|/3|", "/60|", "x", "/3|\x00"} {
			for _, list := range [][]impl.Said{saidBy(view, name, 0, 2), saidBy(3, "/3|", 0, 2), saidBy(view, "/3|", 0, 2), saidBy(3, name, 0, 2)} {
				for _, who := range [][]int{{0}, {2}, {0, 2}, {0, 1}, {0, 3}, {}} {
					if got := impl.Signed([]int{3}, list, view, name, who); got != signedByWords([]int{3}, list, view, name, who) {
						t.Fatalf("Signed(%v, %d, %q, %v) = %v", list, view, name, who, got)
					}
				}
			}
		}
	}
	if signed < 1000 || not < 1000 {
		t.Errorf("%d were signed, and %d were not", signed, not)
	}
}

type lieCase struct {
	name  string
	liars []int
	list  []impl.Said
	m     impl.Msg
	want  bool
}

func checkLieCases(t *testing.T, c impl.Conf, cases []lieCase) {
	t.Helper()
	for _, k := range cases {
		if got := impl.MayLie(c, k.liars, k.list, k.m); got != k.want {
			t.Errorf("%s: MayLie = %v", k.name, got)
		}
		if got := mayLieByWords(c, k.liars, k.list, k.m); got != k.want {
			t.Errorf("%s: the second reading is %v", k.name, got)
		}
	}
}

// TestMayLieOfBlocks has 3 as the root of view 3 of four, and 2 as that of view 2.
func TestMayLieOfBlocks(t *testing.T) {
	first, two := blockMsg(blockOf("/3|", impl.QcFirst())), blockMsg(blockOf("/2|/3|", qcOf(2, "/2|", 0, 1, 2)))
	said := saidBy(2, "/2|", 0, 1, 2)
	checkLieCases(t, impl.Conf{N: 4, Fan: 2}, []lieCase{
		{"on the beginning, its root a liar", []int{3}, nil, first, true},
		{"on the beginning, its root among liars", []int{0, 3}, nil, first, true},
		{"on the beginning, liars in no order", []int{3, 0}, nil, first, true},
		{"on the beginning, an empty list in it", []int{3}, nil, blockMsg(blockOf("/3|", impl.Qc{Who: []int{}})), true},
		{"on the beginning, the last view", []int{0}, nil, blockMsg(blockOf("/60|", impl.QcFirst())), true},
		{"on the beginning, no liars", nil, nil, first, false},
		{"on the beginning, its root said much", nil, saidBy(3, "/3|", 0, 1, 2, 3), first, false},
		{"on the beginning, the root of another view a liar", []int{2}, nil, first, false},
		{"on the beginning, all others are liars", []int{0, 1, 2}, nil, first, false},
		{"on the beginning, all others are liars, of the last view", []int{1, 2, 3}, nil, blockMsg(blockOf("/60|", impl.QcFirst())), false},
		{"on the beginning, -1 and N are liars", []int{-1, 4, 7}, nil, first, false},

		{"its certificate is signed", []int{3}, said, two, true},
		{"its certificate is signed by liars", []int{0, 1, 2, 3}, nil, two, true},
		{"its certificate is signed by liars and others", []int{0, 3}, saidBy(2, "/2|", 1, 2), two, true},
		{"its certificate is signed by its root, too", []int{3}, saidBy(2, "/2|", 0, 1, 2, 3), two, true},
		{"its certificate holds a liar's vote", []int{3}, saidBy(2, "/2|", 0, 1), blockMsg(blockOf("/2|/3|", qcOf(2, "/2|", 0, 1, 3))), true},
		{"its certificate is of all", []int{3}, said, blockMsg(blockOf("/2|/3|", qcOf(2, "/2|", 0, 1, 2, 3))), true},

		{"its certificate is signed, no liars", nil, said, two, false},
		{"its certificate is signed, its root no liar", []int{2}, said, two, false},
		{"the root of its certificate's view a liar alone", []int{2}, saidBy(2, "/2|", 0, 1), two, false},
		{"all that sign are liars, but its root is none", []int{0, 1, 2}, nil, two, false},
		{"its certificate is signed but for the first", []int{3}, saidBy(2, "/2|", 1, 2), two, false},
		{"its certificate is signed but for one between", []int{3}, saidBy(2, "/2|", 0, 2), two, false},
		{"its certificate is signed but for the last", []int{3}, saidBy(2, "/2|", 0, 1), two, false},
		{"its certificate is signed by nobody", []int{3}, nil, two, false},
		{"signed for another view", []int{3}, saidBy(3, "/2|", 0, 1, 2), two, false},
		{"signed for another name", []int{3}, saidBy(2, "/1|/2|", 0, 1, 2), two, false},
		{"signed for the block itself", []int{3}, saidBy(3, "/2|/3|", 0, 1, 2), two, false},
		{"signed for another name by one", []int{3}, append(saidBy(2, "/2|", 0, 1), saidBy(2, "/1|/2|", 2)...), two, false},

		{"not MsgOk: no block", []int{0, 1, 2, 3}, said, impl.Msg{Kind: kindBlock}, false},
		{"not MsgOk: no certificate of it", []int{0, 1, 2, 3}, said, blockMsg(blockOf("/2|/3|", impl.QcFirst())), false},
		{"not MsgOk: too few", []int{0, 1, 2, 3}, said, blockMsg(blockOf("/2|/3|", qcOf(2, "/2|", 0, 1))), false},
		{"not MsgOk: the view of its certificate", []int{0, 1, 2, 3}, said, blockMsg(blockOf("/2|/2|", qcOf(2, "/2|", 0, 1, 2))), false},
		{"not MsgOk: a view too great", []int{0, 1, 2, 3}, said, blockMsg(blockOf("/61|", impl.QcFirst())), false},
		{"not MsgOk: something beside", []int{0, 1, 2, 3}, said, impl.Msg{Kind: kindBlock, Block: two.Block, Who: 3}, false},
	})
}

func TestMayLieOfParts(t *testing.T) {
	part := partMsg(partOf(3, "/2|/3|", 0, 2, 3))
	said := saidBy(3, "/2|/3|", 0, 2, 3)
	everybody := []int{0, 1, 2, 3}
	checkLieCases(t, impl.Conf{N: 4, Fan: 2}, []lieCase{
		{"all told", nil, said, part, true},
		{"all told, and others", nil, append(saidBy(2, "/2|", 0, 1, 2), saidBy(3, "/2|/3|", 3, 2, 1, 0)...), part, true},
		{"all told, other liars", []int{1}, said, part, true},
		{"all of liars", []int{0, 2, 3}, nil, part, true},
		{"one of a liar", []int{2}, nil, partMsg(partOf(3, "/2|/3|", 2)), true},
		{"some of liars", []int{2}, saidBy(3, "/2|/3|", 0, 3), part, true},
		{"one told", nil, said, partMsg(partOf(3, "/2|/3|", 2)), true},
		{"the last view", []int{1}, saidBy(60, "/60|", 0), partMsg(partOf(60, "/60|", 0, 1)), true},
		{"a block that none made", []int{1}, nil, partMsg(partOf(3, "/3|", 1)), true},

		{"none told", nil, nil, part, false},
		{"all but the first told", []int{1}, saidBy(3, "/2|/3|", 2, 3), part, false},
		{"all but one between told", []int{1}, saidBy(3, "/2|/3|", 0, 3), part, false},
		{"all but the last told", []int{1}, saidBy(3, "/2|/3|", 0, 2), part, false},
		{"all but one of liars", []int{0, 1, 2}, nil, part, false},
		{"told of another view", nil, saidBy(2, "/2|/3|", 0, 2, 3), part, false},
		{"told of another name", nil, saidBy(3, "/3|", 0, 2, 3), part, false},
		{"told of what it stands on", nil, saidBy(2, "/2|", 0, 2, 3), part, false},
		{"its root a liar alone", []int{3}, nil, part, false},

		{"not MsgOk: no part", everybody, said, impl.Msg{Kind: kindPart}, false},
		{"not MsgOk: without a name", everybody, saidBy(3, "", 0, 2, 3), partMsg(partOf(3, "", 0, 2, 3)), false},
		{"not MsgOk: nobody", everybody, said, partMsg(partOf(3, "/2|/3|")), false},
		{"not MsgOk: twice", everybody, said, partMsg(partOf(3, "/2|/3|", 0, 0)), false},
		{"not MsgOk: in no order", everybody, said, partMsg(partOf(3, "/2|/3|", 2, 0)), false},
		{"not MsgOk: N", []int{0, 4}, saidBy(3, "/2|/3|", 0, 4), partMsg(partOf(3, "/2|/3|", 0, 4)), false},
		{"not MsgOk: -1", []int{-1}, saidBy(3, "/2|/3|", -1), partMsg(partOf(3, "/2|/3|", -1)), false},
		{"not MsgOk: another view", everybody, saidBy(2, "/2|/3|", 0, 2, 3), partMsg(partOf(2, "/2|/3|", 0, 2, 3)), false},
		{"not MsgOk: something beside", everybody, said, impl.Msg{Kind: kindPart, Part: part.Part, View: 3}, false},
	})
}

// TestMayLieOfViews has 1 as the root of view 5 of four.
func TestMayLieOfViews(t *testing.T) {
	q := qcOf(4, "/1|/4|", 0, 1, 3)
	said := saidBy(4, "/1|/4|", 0, 1, 3)
	everybody := []int{0, 1, 2, 3}
	checkLieCases(t, impl.Conf{N: 4, Fan: 2}, []lieCase{
		{"the beginning", []int{2}, nil, viewMsg(5, 2, impl.QcFirst()), true},
		{"the beginning, an empty list", []int{2}, nil, viewMsg(5, 2, impl.Qc{Who: []int{}}), true},
		{"the beginning, 0", []int{0}, nil, viewMsg(60, 0, impl.QcFirst()), true},
		{"the beginning, the last one, among liars", []int{1, 3}, nil, viewMsg(1, 3, impl.QcFirst()), true},
		{"signed", []int{2}, said, viewMsg(5, 2, q), true},
		{"signed, of the root itself", []int{1}, said, viewMsg(5, 1, q), true},
		{"signed by liars", []int{0, 1, 3}, nil, viewMsg(5, 0, q), true},
		{"signed by liars and others", []int{2, 3}, saidBy(4, "/1|/4|", 0, 1), viewMsg(5, 2, q), true},
		{"a view below its certificate's", []int{2}, said, viewMsg(1, 2, q), true},

		{"the beginning, no liars", nil, nil, viewMsg(5, 2, impl.QcFirst()), false},
		{"the beginning, all others are liars", []int{0, 1, 3}, nil, viewMsg(5, 2, impl.QcFirst()), false},
		{"the beginning, the root a liar, Who none", []int{1}, nil, viewMsg(5, 2, impl.QcFirst()), false},
		{"signed, no liars", nil, said, viewMsg(5, 2, q), false},
		{"signed, of no liar", []int{2}, said, viewMsg(5, 1, q), false},
		{"signed, the root a liar, Who none", []int{1}, said, viewMsg(5, 2, q), false},
		{"signed, the root of its certificate a liar, Who none", []int{0}, said, viewMsg(5, 2, q), false},
		{"signed, Who said it, and is none", []int{2}, said, viewMsg(5, 3, q), false},
		{"signed by nobody", []int{2}, nil, viewMsg(5, 2, q), false},
		{"signed but for the first", []int{2}, said[1:], viewMsg(5, 2, q), false},
		{"signed but for the last", []int{2}, said[:2], viewMsg(5, 2, q), false},
		{"all others are liars, one has not signed", []int{0, 1, 2}, nil, viewMsg(5, 2, q), false},
		{"signed for another view", []int{2}, saidBy(5, "/1|/4|", 0, 1, 3), viewMsg(5, 2, q), false},
		{"signed for another name", []int{2}, saidBy(4, "/4|", 0, 1, 3), viewMsg(5, 2, q), false},

		{"not MsgOk: View 0", everybody, said, viewMsg(0, 2, q), false},
		{"not MsgOk: View 61", everybody, said, viewMsg(61, 2, q), false},
		{"not MsgOk: -1, a liar", []int{-1}, said, viewMsg(5, -1, q), false},
		{"not MsgOk: N, a liar", []int{4}, said, viewMsg(5, 4, q), false},
		{"not MsgOk: too few", everybody, said, viewMsg(5, 2, qcOf(4, "/1|/4|", 0, 1)), false},
		{"not MsgOk: the beginning of three", everybody, said, viewMsg(5, 2, qcOf(0, "", 0, 1, 3)), false},
		{"not MsgOk: something beside", everybody, said, impl.Msg{Kind: kindView, View: 5, Who: 2, Qc: q, Tx: impl.Tx{To: 1}}, false},
	})
}

func TestMayLieOfPayments(t *testing.T) {
	pay := txMsg(impl.Tx{From: 1, To: 2, Amount: 300, Nonce: 4})
	everybody := []int{0, 1, 2, 3}
	checkLieCases(t, impl.Conf{N: 4, Fan: 2}, []lieCase{
		{"without liars", nil, nil, pay, true},
		{"with liars", []int{0}, nil, pay, true},
		{"all are liars, and much was said", everybody, saidBy(3, "/3|", 0, 1), pay, true},
		{"nothing", nil, nil, txMsg(impl.Tx{}), true},
		{"at all limits", nil, nil, txMsg(impl.Tx{From: 3, To: 3, Amount: 1000, Nonce: 99}), true},
		{"not MsgOk: an account too many", everybody, nil, txMsg(impl.Tx{From: 4}), false},
		{"not MsgOk: too much", everybody, nil, txMsg(impl.Tx{Amount: 1001}), false},
		{"not MsgOk: below 0", everybody, nil, txMsg(impl.Tx{Nonce: -1}), false},
		{"not MsgOk: something beside", everybody, nil, impl.Msg{Kind: kindTx, Tx: pay.Tx, Who: 1}, false},
	})
	for _, kind := range noKinds() {
		for _, m := range append(fewMsgs(), mixedMsgs()...) {
			m.Kind = kind
			if impl.MayLie(impl.Conf{N: 4, Fan: 2}, everybody, votesOf(m), m) {
				t.Fatalf("MayLie of kind %d is true", kind)
			}
		}
	}
}

// TestMayLieOfEachView has each liar alone beside the block, the part and the
// lateness of each view, in each Conf.
func TestMayLieOfEachView(t *testing.T) {
	for _, c := range allConfs() {
		for view := 1; view <= 60; view++ {
			name := nameByWords(chainOf(view))
			for liar := -1; liar <= 8; liar++ {
				for id := range 8 {
					right := confOkByWords(c) && id < c.N
					for _, k := range []struct {
						m    impl.Msg
						want bool
					}{
						{blockMsg(blockOf(name, impl.QcFirst())), confOkByWords(c) && liar == rootByWords(c, view)},
						{partMsg(partOf(view, name, id)), right && liar == id},
						{viewMsg(view, id, impl.QcFirst()), right && liar == id},
						{txMsg(impl.Tx{}), confOkByWords(c)},
					} {
						if got := impl.MayLie(c, []int{liar}, nil, k.m); got != k.want {
							t.Fatalf("%v: MayLie of %v by %d = %v", c, k.m, liar, got)
						}
					}
				}
			}
		}
	}
}

// saidLists has what was told of votes that the messages bear: all, all but one,
// and such as differ in one thing.
func saidLists(m impl.Msg) [][]impl.Said {
	votes := votesOf(m)
	out := [][]impl.Said{nil, votes}
	for i := range min(len(votes), 3) {
		less := slices.Delete(slices.Clone(votes), i, i+1)
		out = append(out, less)
		for _, turn := range []func(*impl.Said){
			func(s *impl.Said) { s.View++ },
			func(s *impl.Said) { s.Name += "/60|" },
			func(s *impl.Said) { s.Name = "" },
			func(s *impl.Said) { s.Who += 4 },
		} {
			other := slices.Clone(votes)
			turn(&other[i])
			out = append(out, other)
		}
	}
	slices.Reverse(votes)
	return append(out, append(saidBy(1, "/1|", 0, 1, 2, 3), votes...))
}

// fewLiars has sets of liars and lists that are none.
func fewLiars() [][]int {
	return [][]int{nil, {}, {0}, {1}, {2}, {3}, {0, 2}, {1, 3}, {0, 1, 2, 3}, {3, 0}, {1, 1}, {-1, 4}, {math.MinInt, 2, math.MaxInt}}
}

func TestMayLieAsTheWordsSay(t *testing.T) {
	four := impl.Conf{N: 4, Fan: 2}
	may, not := map[int]int{}, map[int]int{}
	check := func(c impl.Conf, liars []int, list []impl.Said, m impl.Msg) {
		got := impl.MayLie(c, liars, list, m)
		if got != mayLieByWords(c, liars, list, m) {
			t.Fatalf("MayLie(%v, %v, %v, %v) = %v", c, liars, list, m, got)
		}
		if got {
			may[m.Kind]++
		} else {
			not[m.Kind]++
		}
	}
	for _, m := range append(allMsgs(four), heardMsgs()...) {
		lists := saidLists(m)
		for i, liars := range fewLiars() {
			check(four, liars, lists[1], m)
			check(four, liars, lists[i%len(lists)], m)
		}
	}
	for _, m := range append(fewMsgs(), heardMsgs()...) {
		for _, c := range append(allConfs(), four) {
			for _, list := range saidLists(m) {
				for _, liars := range fewLiars() {
					check(c, liars, list, m)
				}
			}
		}
	}
	for kind := kindBlock; kind <= kindTx; kind++ {
		if may[kind] < 100 || not[kind] < 100 {
			t.Errorf("kind %d: %d may be told, and %d may not", kind, may[kind], not[kind])
		}
	}
}

func TestSaidOf(t *testing.T) {
	two, three, four := qcOf(2, "/2|", 0, 1, 2), partOf(3, "/2|/3|", 1, 3), qcOf(4, "/1|/4|", 0, 2, 3)
	block := blockOf("/2|/3|", two)
	whole := impl.Msg{View: 5, Block: block, Part: three, Qc: four, Who: 1, Tx: impl.Tx{To: 1}}
	kind := func(kind int) impl.Msg {
		m := whole
		m.Kind = kind
		return m
	}
	for _, k := range []struct {
		name string
		id   int
		m    impl.Msg
		want []impl.Said
	}{
		{"a part", 1, partMsg(three), saidBy(3, "/2|/3|", 1)},
		{"a part, the last of it", 3, partMsg(three), saidBy(3, "/2|/3|", 3)},
		{"a part, not of it", 2, partMsg(three), nil},
		{"a part without a name", 1, partMsg(partOf(3, "", 1, 3)), nil},
		{"a part of nobody", 1, partMsg(partOf(3, "/3|")), nil},
		{"a part of view 0", 1, partMsg(partOf(0, "/3|", 1)), saidBy(0, "/3|", 1)},
		{"a part of another view", 1, partMsg(partOf(61, "/3|", 1)), saidBy(61, "/3|", 1)},
		{"a part of a name that is none", 1, partMsg(partOf(-7, "x", 1)), saidBy(-7, "x", 1)},
		{"a part, twice of it", 1, partMsg(partOf(3, "/3|", 1, 1, 2, 1)), saidBy(3, "/3|", 1)},
		{"a part in no order", 0, partMsg(partOf(3, "/3|", 3, 0, 2)), saidBy(3, "/3|", 0)},
		{"below 0 and of a part", -1, partMsg(partOf(3, "/3|", -1, 1)), saidBy(3, "/3|", -1)},
		{"below 0", -1, partMsg(three), nil},
		{"N", 4, partMsg(three), nil},
		{"above N and of a part", 9, partMsg(partOf(3, "/3|", 1, 9)), saidBy(3, "/3|", 9)},
		{"the least, of a part", math.MinInt, partMsg(partOf(3, "/3|", math.MinInt)), saidBy(3, "/3|", math.MinInt)},
		{"the greatest", math.MaxInt, partMsg(three), nil},
		{"the same low bits", 1<<32 + 1, partMsg(three), nil},

		{"a block", 0, blockMsg(block), saidBy(2, "/2|", 0)},
		{"a block, the last of it", 2, blockMsg(block), saidBy(2, "/2|", 2)},
		{"a block, its root, not of its certificate", 3, blockMsg(block), nil},
		{"a block on the beginning", 3, blockMsg(blockOf("/3|", impl.QcFirst())), nil},
		{"a block on what has no name", 1, blockMsg(blockOf("/3|", qcOf(2, "", 0, 1, 2))), nil},
		{"a block that does not stand on its certificate", 1, blockMsg(blockOf("", two)), saidBy(2, "/2|", 1)},
		{"a block of too few", 1, blockMsg(blockOf("/2|/3|", qcOf(2, "/2|", 1))), saidBy(2, "/2|", 1)},

		{"lateness", 0, viewMsg(5, 1, four), saidBy(4, "/1|/4|", 0)},
		{"lateness, the last of it", 3, viewMsg(5, 1, four), saidBy(4, "/1|/4|", 3)},
		{"lateness of who is not of its certificate", 1, viewMsg(5, 1, four), nil},
		{"lateness with the beginning", 1, viewMsg(5, 1, impl.QcFirst()), nil},
		{"lateness with what has no name", 2, viewMsg(5, 1, qcOf(4, "", 0, 2, 3)), nil},
		{"lateness of no view", 2, viewMsg(0, 9, four), saidBy(4, "/1|/4|", 2)},

		{"a payment", 1, txMsg(impl.Tx{From: 1, To: 1}), nil},
		{"nothing", 0, impl.Msg{}, nil},

		{"a part beside certificates", 1, kind(kindPart), saidBy(3, "/2|/3|", 1)},
		{"a part beside certificates, of these alone", 2, kind(kindPart), nil},
		{"a block beside a certificate", 1, kind(kindBlock), saidBy(2, "/2|", 1)},
		{"a block beside a certificate, of this alone", 3, kind(kindBlock), nil},
		{"lateness beside a part", 3, kind(kindView), saidBy(4, "/1|/4|", 3)},
		{"lateness beside a part, of this alone", 1, kind(kindView), nil},
		{"a payment beside all, of all", 0, kind(kindTx), nil},
		{"a payment beside all, of a part", 1, kind(kindTx), nil},
		{"no kind, of the certificate", 3, kind(0), saidBy(4, "/1|/4|", 3)},
		{"no kind, of others alone", 1, kind(0), nil},
		{"kind 5, of the certificate", 2, kind(5), saidBy(4, "/1|/4|", 2)},
		{"kind 5, of others alone", 1, kind(5), nil},
		{"kind -1, of the certificate", 0, kind(-1), saidBy(4, "/1|/4|", 0)},
		{"a kind with the low bits of a part", 0, kind(1<<32 + 2), saidBy(4, "/1|/4|", 0)},
		{"a kind with the low bits of a payment", 0, kind(1<<32 + 4), saidBy(4, "/1|/4|", 0)},
		{"no kind, without a name", 0, impl.Msg{Qc: qcOf(4, "", 0)}, nil},
	} {
		if got := impl.SaidOf(k.id, k.m); !slices.Equal(got, k.want) {
			t.Errorf("%s: SaidOf(%d) = %v, want %v", k.name, k.id, got, k.want)
		}
		if got := saidOfByWords(k.id, k.m); !slices.Equal(got, k.want) {
			t.Errorf("%s: the second reading is %v, want %v", k.name, got, k.want)
		}
	}
}

func TestSaidOfAsTheWordsSay(t *testing.T) {
	four := impl.Conf{N: 4, Fan: 2}
	said, not := 0, 0
	check := func(id int, m impl.Msg) {
		got := impl.SaidOf(id, m)
		if !slices.Equal(got, saidOfByWords(id, m)) {
			t.Fatalf("SaidOf(%d, %v) = %v", id, m, got)
		}
		if len(got) > 0 {
			said++
		} else {
			not++
		}
	}
	for _, m := range append(allMsgs(four), heardMsgs()...) {
		for id := -1; id <= 5; id++ {
			check(id, m)
		}
	}
	for _, m := range append(fewMsgs(), mixedMsgs()...) {
		for _, kind := range append(noKinds(), 1, 2, 3, 4) {
			m.Kind = kind
			for _, id := range []int{-1, 0, 1, 2, 3, 4} {
				check(id, m)
			}
		}
	}
	for _, who := range append(shortLists(2, -1, 0, 1, 4), oddLists()...) {
		for _, name := range []string{"", "/3|", "x"} {
			for _, view := range []int{-1, 0, 3, 61} {
				q := qcOf(view, name, who...)
				for _, m := range []impl.Msg{blockMsg(blockOf("/9|", q)), partMsg(impl.Part(q)), viewMsg(5, 1, q), {Kind: kindTx, Qc: q}, {Kind: 7, Qc: q}} {
					for _, id := range listNumbers() {
						check(id, m)
					}
				}
			}
		}
	}
	if said < 1000 || not < 1000 {
		t.Errorf("%d were said, and %d were not", said, not)
	}
}

// TestLiarsSignForNobodyElse is promise 18: each vote of what a liar may tell is
// a liar's, or was told; and who it is told of is a liar.
func TestLiarsSignForNobodyElse(t *testing.T) {
	for _, c := range []impl.Conf{{N: 4, Fan: 2}, {N: 5, Fan: 1}, {N: 7, Fan: 6}} {
		let, stopped := 0, 0
		for _, m := range append(rightMsgs(c), fewMsgs()...) {
			lists := saidLists(m)
			for i := range 1 << c.N {
				liars, list := setOfBits(i), lists[i%len(lists)]
				if !impl.MayLie(c, liars, list, m) {
					stopped++
					continue
				}
				let++
				for _, vote := range votesOf(m) {
					if !slices.Contains(liars, vote.Who) && !slices.Contains(list, vote) {
						t.Fatalf("%v: liars %v may tell %v, and nobody told %v", c, liars, m, vote)
					}
				}
				if m.Kind == kindBlock && !slices.Contains(liars, impl.Root(c, impl.ViewOf(m.Block.Name))) || m.Kind == kindView && !slices.Contains(liars, m.Who) {
					t.Fatalf("%v: liars %v may tell %v of another one", c, liars, m)
				}
			}
		}
		if let < 1000 || stopped < 1000 {
			t.Errorf("%v: %d were let by, and %d were not", c, let, stopped)
		}
	}
}

// TestLiarsNeedEachHonestVote: what honest ones told is enough for each of their
// votes, as SaidOf has it, and each of these is needed.
func TestLiarsNeedEachHonestVote(t *testing.T) {
	c := impl.Conf{N: 7, Fan: 2}
	for bits := 1; bits < 1<<c.N; bits++ {
		part := partMsg(partOf(9, "/3|/9|", setOfBits(bits)...))
		var told []impl.Said
		for id := range c.N {
			told = append(told, impl.SaidOf(id, part)...)
		}
		if len(told) != len(part.Part.Who) || !impl.MayLie(c, nil, told, part) {
			t.Fatalf("told are %v, and %v may not be told", told, part)
		}
		for i, one := range told {
			less := slices.Delete(slices.Clone(told), i, i+1)
			if impl.MayLie(c, nil, less, part) || !impl.MayLie(c, []int{one.Who}, less, part) {
				t.Fatalf("without %v, MayLie of %v is not as its liars are", one, part)
			}
		}
	}
}

// TestNoCertificateWithoutHonestVotes has as many liars as there may be: of what
// too few honest ones voted for, they tell no certificate.
func TestNoCertificateWithoutHonestVotes(t *testing.T) {
	for _, c := range []impl.Conf{{N: 4, Fan: 2}, {N: 5, Fan: 1}, {N: 7, Fan: 6}} {
		for bits := range 1 << c.N {
			liars := setOfBits(bits)
			if len(liars) == 0 || len(liars) > impl.Faults(c) {
				continue
			}
			for votes := range 1 << c.N {
				honest := setOfBits(votes &^ bits)
				list := saidBy(2, "/2|", honest...)
				may := 0
				for all := range 1 << c.N {
					m := viewMsg(3, liars[0], qcOf(2, "/2|", setOfBits(all)...))
					if len(m.Qc.Who) == enoughOf(c.N) && impl.MayLie(c, liars, list, m) {
						may++
					}
				}
				if (may > 0) != (len(honest)+len(liars) >= enoughOf(c.N)) {
					t.Fatalf("%v: liars %v may tell %d certificates of votes of %v", c, liars, may, honest)
				}
			}
		}
	}
}

func saidWithRoom(list []impl.Said) ([]impl.Said, []impl.Said) {
	whole := slices.Concat(list, saidBy(2, "/2|", 901, 902), saidBy(3, "/2|/3|", 0, 1, 2, 3))
	return whole[:len(list)], whole
}

// TestLiarsTurnNoArgument has room behind each list, in which every write is
// seen.
func TestLiarsTurnNoArgument(t *testing.T) {
	c := impl.Conf{N: 4, Fan: 2}
	for _, m := range append(allMsgs(c), heardMsgs()...) {
		given, whole := msgWithRoom(m)
		liars, allLiars := listWithRoom([]int{3, 0})
		list, allSaid := saidWithRoom(votesOf(m))
		who, allWho := listWithRoom([]int{2, 0, 901})
		before, liarsBefore, saidBefore, whoBefore := cloneLists(whole), slices.Clone(allLiars), slices.Clone(allSaid), slices.Clone(allWho)
		for id := -1; id <= 4; id++ {
			one := impl.SaidOf(id, given)
			other := impl.SaidOf(id, given)
			want := slices.Clone(other)
			clear(one[:cap(one)])
			if !slices.Equal(other, want) || !slices.Equal(impl.SaidOf(id, given), want) {
				t.Fatalf("two answers of SaidOf(%d, %v) share memory", id, m)
			}
		}
		first := impl.MayLie(c, liars, list, given)
		if impl.MayLie(c, liars, list, given) != first || impl.Signed(liars, list, 2, "/2|", who) {
			t.Fatalf("MayLie of %v turns with what was asked, or 901 signs", m)
		}
		if !slices.EqualFunc(whole, before, slices.Equal[[]int]) || !slices.Equal(allLiars, liarsBefore) || !slices.Equal(allSaid, saidBefore) || !slices.Equal(allWho, whoBefore) {
			t.Fatalf("an argument was turned with %v", m)
		}
	}
}

// TestWhatWasSaidIsNotShared turns the message behind the call.
func TestWhatWasSaidIsNotShared(t *testing.T) {
	for _, m := range append(fewMsgs(), heardMsgs()...) {
		for id := range 4 {
			given := cloneMsg(m)
			got := impl.SaidOf(id, given)
			spoilMsg(given)
			if !slices.Equal(got, saidOfByWords(id, m)) {
				t.Fatalf("SaidOf(%d, %v) shares memory with it", id, m)
			}
		}
	}
}

// TestLiarsDoNotReadBehindTheirLists has what would turn the answer in the spare
// room of each list.
func TestLiarsDoNotReadBehindTheirLists(t *testing.T) {
	c := impl.Conf{N: 4, Fan: 2}
	some := []int{0, 1, 2, 3}
	said := saidBy(3, "/2|/3|", 0, 1, 2, 3)
	if impl.Signed(some[:2], nil, 3, "/2|/3|", []int{2}) || impl.Signed(nil, said[:2], 3, "/2|/3|", []int{2}) || !impl.Signed(some[:1], said[1:2], 3, "/2|/3|", some[:2]) {
		t.Error("Signed reads behind a list")
	}
	if impl.MayLie(c, some[:3], nil, blockMsg(blockOf("/3|", impl.QcFirst()))) || impl.MayLie(c, some[:2], nil, viewMsg(3, 2, impl.QcFirst())) {
		t.Error("MayLie reads behind the liars")
	}
	if impl.MayLie(c, nil, said[:2], partMsg(partOf(3, "/2|/3|", 0, 2))) || !impl.MayLie(c, nil, said[:2], partMsg(impl.Part{View: 3, Name: "/2|/3|", Who: some[:2]})) {
		t.Error("MayLie reads behind what was said, or behind a part")
	}
	q := impl.Qc{View: 3, Name: "/2|/3|", Who: some[:2]}
	for _, m := range []impl.Msg{partMsg(impl.Part(q)), blockMsg(blockOf("/2|/3|/4|", q)), viewMsg(4, 2, q), {Kind: 9, Qc: q}} {
		if len(impl.SaidOf(2, m)) != 0 || len(impl.SaidOf(1, m)) != 1 {
			t.Errorf("SaidOf reads behind a list of %v", m)
		}
	}
}

// TestLiarsOfOneList hands in one list at many places.
func TestLiarsOfOneList(t *testing.T) {
	c := impl.Conf{N: 4, Fan: 2}
	one := []int{0, 1, 3}
	said := saidBy(2, "/2|", one...)
	m := viewMsg(3, 1, impl.Qc{View: 2, Name: "/2|", Who: one})
	if !impl.Signed(one, nil, 2, "/2|", one) || impl.Signed(nil, said, 3, "/2|", one) || !impl.MayLie(c, one, nil, m) || !impl.MayLie(c, one[1:2], said, m) {
		t.Error("one list at many places")
	}
	for id := range 4 {
		if got := impl.SaidOf(id, m); !slices.Equal(got, saidOfByWords(id, m)) {
			t.Errorf("SaidOf(%d) = %v", id, got)
		}
	}
	if !slices.Equal(one, []int{0, 1, 3}) || !slices.Equal(said, saidBy(2, "/2|", 0, 1, 3)) {
		t.Error("the list was turned")
	}
}

func TestNoLiarsAndNilAreTheSame(t *testing.T) {
	c := impl.Conf{N: 4, Fan: 2}
	for _, m := range append(fewMsgs(), heardMsgs()...) {
		for _, list := range saidLists(m) {
			if impl.MayLie(c, nil, list, m) != impl.MayLie(c, []int{}, list, m) {
				t.Fatalf("MayLie of %v tells nil and no liars apart", m)
			}
		}
		for _, liars := range fewLiars() {
			if impl.MayLie(c, liars, nil, m) != impl.MayLie(c, liars, []impl.Said{}, m) {
				t.Fatalf("MayLie of %v tells nil and nothing said apart", m)
			}
			if impl.Signed(liars, nil, 3, "/3|", []int{1}) != impl.Signed(liars, []impl.Said{}, 3, "/3|", []int{1}) || !impl.Signed(liars, nil, 3, "/3|", []int{}) || !impl.Signed(liars, nil, 3, "/3|", nil) {
				t.Fatal("Signed tells nil and an empty list apart")
			}
		}
	}
}

// TestLiarsKeepNothing asks the same again once others were asked, and many at
// once.
func TestLiarsKeepNothing(t *testing.T) {
	c := impl.Conf{N: 4, Fan: 2}
	type answer struct {
		may  bool
		said []impl.Said
	}
	ask := func(m impl.Msg, liars []int, id int) answer {
		return answer{impl.MayLie(c, liars, votesOf(m), m), impl.SaidOf(id, m)}
	}
	msgs := append(fewMsgs(), heardMsgs()...)
	var want []answer
	for i, m := range msgs {
		want = append(want, ask(m, fewLiars()[i%13], i%5))
	}
	var all sync.WaitGroup
	for g := range 8 {
		all.Go(func() {
			for i := range msgs {
				at := (i*(g+1) + g) % len(msgs)
				if got := ask(msgs[at], fewLiars()[at%13], at%5); got.may != want[at].may || !slices.Equal(got.said, want[at].said) {
					t.Errorf("MayLie or SaidOf of %v is another one than it was", msgs[at])
				}
			}
		})
	}
	all.Wait()
}

// TestGreatLiars has far more of each than there may be.
func TestGreatLiars(t *testing.T) {
	c := impl.Conf{N: 4, Fan: 2}
	var many []int
	for i := range 3000 {
		many = append(many, i)
	}
	long := strings.Repeat("/3|", 100000)
	said := saidBy(3, long, many...)
	if !impl.Signed(many, nil, 3, long, many) || !impl.Signed(nil, said, 3, long, many) || impl.Signed(nil, said[:2999], 3, long, many) || impl.Signed(many[1:], nil, 3, long, many) || impl.Signed(nil, said, 3, long+"x", many) {
		t.Error("Signed of many")
	}
	part := partMsg(partOf(3, long, many...))
	if impl.MayLie(c, many, said, part) || impl.MayLie(c, many, said, viewMsg(3, 0, qcOf(3, long, many...))) || !impl.MayLie(c, many, said, txMsg(impl.Tx{})) {
		t.Error("MayLie of many")
	}
	if got := impl.SaidOf(2999, part); !slices.Equal(got, said[2999:]) {
		t.Error("SaidOf of many: the last one has not said it")
	}
	if got := impl.SaidOf(3000, part); len(got) != 0 {
		t.Error("SaidOf of many: one too far")
	}
}
