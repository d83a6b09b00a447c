package tests

import (
	"fmt"
	"math"
	"regexp"
	"slices"
	"strconv"
	"strings"
	"testing"

	"loop.example/g00448/impl"
)

// nameByWords puts a name together from the words of the document, whether or
// not its steps keep the limits.
func nameByWords(steps []impl.Step) string {
	name := ""
	for _, step := range steps {
		var texts []string
		for _, x := range step.Txs {
			texts = append(texts, fmt.Sprintf("%d>%d:%d#%d", x.From, x.To, x.Amount, x.Nonce))
		}
		name += fmt.Sprintf("/%d|%s", step.View, strings.Join(texts, ","))
	}
	return name
}

// chainOf has a step of each of these views, with none, one and MaxBlock
// payments in turn, no two of which are alike.
func chainOf(views ...int) []impl.Step {
	var out []impl.Step
	for i, view := range views {
		step := impl.Step{View: view}
		for j := range i % (impl.MaxBlock + 1) {
			step.Txs = append(step.Txs, impl.Tx{From: i % 4, To: j, Amount: 33*i + j, Nonce: 3*i + j})
		}
		out = append(out, step)
	}
	return out
}

// viewsFrom has so many views, one behind the other.
func viewsFrom(first, many int) []int {
	var out []int
	for i := range many {
		out = append(out, first+i)
	}
	return out
}

func rightChains() [][]impl.Step {
	full := []impl.Tx{{From: 3, To: 3, Amount: 1000, Nonce: 99}, {From: 3, To: 3, Amount: 1000, Nonce: 99}}
	out := [][]impl.Step{
		nil,
		{{View: 1}},
		{{View: 60}},
		{{View: 9, Txs: []impl.Tx{{}}}},
		{{View: 10, Txs: full}},
		{{View: 2, Txs: []impl.Tx{{From: 0, To: 1, Amount: 5}}}, {View: 3}},
		{{View: 2}, {View: 22}},
		{{View: 9, Txs: full}, {View: 10, Txs: full}},
		{{View: 1}, {View: 60}},
		{{View: 59, Txs: full}, {View: 60}},
		chainOf(1, 2, 3),
		chainOf(3, 9, 10, 11, 59, 60),
		chainOf(viewsFrom(1, 29)...),
		chainOf(viewsFrom(1, 30)...),
		chainOf(viewsFrom(31, 30)...),
	}
	every := chainOf(viewsFrom(20, 30)...)
	for i := range every {
		every[i].Txs = full
	}
	return append(out, every)
}

func rightNames() []string {
	var out []string
	for _, steps := range rightChains() {
		out = append(out, nameByWords(steps))
	}
	return out
}

// wrongChains has steps that pass a limit, each at several places.
func wrongChains() [][]impl.Step {
	out := [][]impl.Step{
		chainOf(viewsFrom(1, 31)...),
		chainOf(viewsFrom(30, 31)...),
		chainOf(viewsFrom(1, 60)...),
		chainOf(viewsFrom(1, 61)...),
	}
	for _, views := range [][]int{
		{0}, {-1}, {61}, {-60}, {100}, {999999}, {1000000}, {math.MinInt}, {math.MaxInt}, {1 << 32}, {1<<32 + 1},
		{0, 1}, {0, 0}, {-1, 1}, {1, 61}, {60, 61}, {60, 1}, {1, 0}, {1, -1}, {61, 62},
		{1, 1}, {60, 60}, {2, 1}, {10, 9}, {9, 1}, {30, 29},
		{1, 2, 2}, {1, 1, 2}, {1, 3, 2}, {3, 1, 2}, {2, 3, 1}, {1, 2, 61}, {5, 6, 5}, {1, 5, 5, 6},
	} {
		out = append(out, chainOf(views...))
	}
	for i := range 30 {
		same, below := viewsFrom(10, 30), viewsFrom(10, 30)
		same[i] = same[max(i-1, 0)] - max(1-i, 0)*10
		below[i] = below[max(i-2, 0)] - max(2-i, 0)*10
		many := chainOf(viewsFrom(10, 30)...)
		many[i].Txs = []impl.Tx{{}, {Nonce: 1}, {Nonce: 2}}
		out = append(out, chainOf(same...), chainOf(below...), many)
		for _, x := range wrongTxs() {
			foreign := chainOf(viewsFrom(10, 30)...)
			foreign[i].Txs = append(foreign[i].Txs[:min(i%3, 1)], x)
			out = append(out, foreign)
		}
	}
	for _, many := range []int{3, 4, 40} {
		out = append(out, []impl.Step{{View: 1, Txs: make([]impl.Tx, many)}}, []impl.Step{{View: 1}, {View: 2, Txs: make([]impl.Tx, many)}})
	}
	return out
}

func wrongNames() []string {
	out := []string{
		// marks that are missing, or too many
		"/", "|", "//", "/|", "||", "2", "2|", "/2", "/2|/", "//2|", "/2||", "/2|//3|", "|2/", "/2/3|", "2|/3|", "/2|3|", "/2|/3", "/2|/|", "/|/3|", "|/2|",
		// views that are no Digits
		"/|0>1:5#0", "/01|", "/00|", "/002|", "/060|", "/+1|", "/-1|", "/ 1|", "/1 |", "/1_0|", "/0x1|", "/1.0|", "/1e1|", "/x|", "/１|", "/2|/03|", "/2|/+3|",
		"/18446744073709551617|", "/1\x00|", "/\x001|",
		// payments that are none
		"/2|0", "/2|x", "/2| ", "/2|,", "/2|0>1:5#0,", "/2|,0>1:5#0", "/2|0>1:5#0,,0>1:5#1", "/2|0>1:5#0,0>1:5#1,", "/2|0>1:5#0;0>1:5#1", "/2|0>1:5#0 ,0>1:5#1",
		"/2|00>1:5#0", "/2|0>01:5#0", "/2|0>1:05#0", "/2|0>1:5#00", "/2|0>1:5#0,0>1:5#01",
		"/2|+0>1:5#0", "/2|0>+1:5#0", "/2|0>1:+5#0", "/2|0>1:5#+0", "/2|0>>1:5#0", "/2|0>1::5#0", "/2|0>1:5##0", "/2|0>1:-5#0", "/2|0>1:5#-0",
		"/2|0>1:5", "/2|0>1#0", "/2|>:#", "/2|0>1:#0", "/2|0-1:5#0",
		"/2|4>1:5#0", "/2|0>4:5#0", "/2|0>1:1001#0", "/2|0>1:5#100",
		"/1|0>1:0#0,0>1:0#1,0>1:0#2",
		// something ahead of the first step, or behind the last one
		" ", "x", "x/2|", " /2|", "0>1:5#0", "0>1:5#0/2|", "/2|0>1:5#0x", "/2|0>1:5#0 ", "/2|x/3|", "/2|/3|x", "/2| /3|", "/2|/3| ", "/2|/3|\n", "/2|/3|\x00", "/2|/3|/", "/2|/3||", "/2|/3|?", "?",
		"/2|\xff", "\xff/2|", "/\xff|", "/2|é", "start",
		strings.Repeat("/", 1000), strings.Repeat("/1|", 1000), strings.Repeat("|", 1000), "/1|" + strings.Repeat("0>1:5#0,", 1000), "/" + strings.Repeat("1", 1000) + "|",
	}
	for _, text := range unreadTxs() {
		// No text is a step without payments, and one with a comma may be two.
		if text != "" && !strings.Contains(text, ",") {
			out = append(out, "/2|"+text, "/2|"+text+"/3|", "/1|/2|0>1:5#0,"+text, "/2|"+text+",0>1:5#0")
		}
	}
	for _, steps := range wrongChains() {
		out = append(out, nameByWords(steps))
	}
	return out
}

// unsureNames has names with one byte left away, put in or put in the place of
// another, at each place: most of them are none, some are.
func unsureNames() []string {
	var out []string
	for _, name := range []string{"/2|0>1:5#0/3|", "/1|/10|3>2:1000#99,1>0:10#1/22|0>0:0#0", "/9|/11|0>1:9#9/12|/60|"} {
		for i := range len(name) + 1 {
			for _, sign := range []byte("/|>:#,0123456789-+ x\x00\xff") {
				out = append(out, name[:i]+string([]byte{sign})+name[i:])
				if i < len(name) {
					out = append(out, name[:i]+string([]byte{sign})+name[i+1:])
				}
			}
			if i < len(name) {
				out = append(out, name[:i]+name[i+1:], name[:i], name[i:])
			}
		}
	}
	return out
}

var (
	txShape   = `[0-3]>[0-3]:(?:0|[1-9][0-9]{0,2}|1000)#(?:0|[1-9][0-9]?)`
	stepShape = regexp.MustCompile(`/([1-9]|[1-5][0-9]|60)\|((?:` + txShape + `(?:,` + txShape + `)?)?)`)
	nameShape = regexp.MustCompile(`\A(?:` + stepShape.String() + `){0,30}\z`)
)

// stepsByWords reads a name by its shape alone, as a second reading of what the
// document says.
func stepsByWords(s string) ([]impl.Step, bool) {
	if !nameShape.MatchString(s) {
		return nil, false
	}
	var out []impl.Step
	for _, found := range stepShape.FindAllStringSubmatch(s, -1) {
		view, _ := strconv.Atoi(found[1])
		if len(out) > 0 && view <= out[len(out)-1].View {
			return nil, false
		}
		txs, _ := impl.TxsOf(found[2])
		out = append(out, impl.Step{View: view, Txs: txs})
	}
	return out, true
}

func sameSteps(a, b []impl.Step) bool {
	return slices.EqualFunc(a, b, func(x, y impl.Step) bool { return x.View == y.View && slices.Equal(x.Txs, y.Txs) })
}

func cloneSteps(steps []impl.Step) []impl.Step {
	out := slices.Clone(steps)
	for i := range out {
		out[i].Txs = slices.Clone(out[i].Txs)
	}
	return out
}

func TestChainLimits(t *testing.T) {
	if impl.MaxHeight != 30 || impl.MaxView != 60 {
		t.Error(impl.MaxHeight, impl.MaxView)
	}
}

func TestSteps(t *testing.T) {
	cases := []struct {
		s    string
		want []impl.Step
	}{
		{"", nil},
		{"/1|", []impl.Step{{View: 1}}},
		{"/60|", []impl.Step{{View: 60}}},
		{"/2|0>1:5#0", []impl.Step{{View: 2, Txs: []impl.Tx{{To: 1, Amount: 5}}}}},
		{"/2|0>1:5#0/3|", []impl.Step{{View: 2, Txs: []impl.Tx{{To: 1, Amount: 5}}}, {View: 3}}},
		{"/2|/3|0>1:5#0", []impl.Step{{View: 2}, {View: 3, Txs: []impl.Tx{{To: 1, Amount: 5}}}}},
		{"/9|3>2:1000#99,0>0:0#0/10|/60|1>1:1#1", []impl.Step{
			{View: 9, Txs: []impl.Tx{{From: 3, To: 2, Amount: 1000, Nonce: 99}, {}}}, {View: 10}, {View: 60, Txs: []impl.Tx{{From: 1, To: 1, Amount: 1, Nonce: 1}}}}},
		{"/1|0>1:5#0,0>1:5#0", []impl.Step{{View: 1, Txs: []impl.Tx{{To: 1, Amount: 5}, {To: 1, Amount: 5}}}}},
	}
	for _, c := range cases {
		if got, ok := impl.Steps(c.s); !ok || !sameSteps(got, c.want) {
			t.Errorf("Steps(%q) = %v, %v, want %v", c.s, got, ok, c.want)
		}
	}
}

func TestStepsAreReadAsTheyWere(t *testing.T) {
	for _, steps := range rightChains() {
		if got, ok := impl.Steps(nameByWords(steps)); !ok || !sameSteps(got, steps) {
			t.Errorf("Steps(%q) = %v, %v, want %v", nameByWords(steps), got, ok, steps)
		}
	}
}

func TestWhatIsNoName(t *testing.T) {
	for _, s := range wrongNames() {
		if got, ok := impl.Steps(s); ok || len(got) != 0 {
			t.Errorf("Steps(%q) = %v, %v, want nothing and false", s, got, ok)
		}
		if impl.NameOk(s) || impl.Height(s) != -1 || impl.UpOf(s) != "" || impl.ViewOf(s) != 0 || len(impl.TxsIn(s)) != 0 {
			t.Errorf("%q: NameOk %v, Height %d, UpOf %q, ViewOf %d, TxsIn %v", s, impl.NameOk(s), impl.Height(s), impl.UpOf(s), impl.ViewOf(s), impl.TxsIn(s))
		}
	}
}

func TestNamesAsTheWordsSay(t *testing.T) {
	right, wrong := 0, 0
	for _, s := range slices.Concat(rightNames(), wrongNames(), unsureNames()) {
		want, wantOk := stepsByWords(s)
		if got, ok := impl.Steps(s); ok != wantOk || !sameSteps(got, want) {
			t.Errorf("Steps(%q) = %v, %v, want %v, %v", s, got, ok, want, wantOk)
		}
		if got := impl.NameOk(s); got != wantOk {
			t.Errorf("NameOk(%q) = %v", s, got)
		}
		if wantOk {
			right++
			continue
		}
		wrong++
		if impl.Height(s) != -1 || impl.UpOf(s) != "" || impl.ViewOf(s) != 0 || len(impl.TxsIn(s)) != 0 {
			t.Errorf("%q: Height %d, UpOf %q, ViewOf %d, TxsIn %v", s, impl.Height(s), impl.UpOf(s), impl.ViewOf(s), impl.TxsIn(s))
		}
	}
	if right < 200 || wrong < 2000 {
		t.Errorf("%d names, %d others", right, wrong)
	}
}

func TestStepsAtEachView(t *testing.T) {
	for view := -3; view <= 130; view++ {
		s := fmt.Sprintf("/%d|", view)
		if got := impl.NameOk(s); got != (view >= 1 && view <= 60) {
			t.Errorf("NameOk(%q) = %v", s, got)
		}
		for next := -3; next <= 63; next++ {
			more := s + fmt.Sprintf("/%d|", next)
			if got := impl.NameOk(more); got != (view >= 1 && next > view && next <= 60) {
				t.Errorf("NameOk(%q) = %v", more, got)
			}
		}
	}
}

func TestStepsAtEachHeight(t *testing.T) {
	for _, first := range []int{1, 10} {
		for many := range 51 {
			s := nameByWords(chainOf(viewsFrom(first, many)...))
			steps, ok := impl.Steps(s)
			if many <= 30 && (!ok || len(steps) != many || impl.Height(s) != many) || many > 30 && (ok || len(steps) != 0 || impl.Height(s) != -1) {
				t.Errorf("%d steps: %v, %v, Height %d", many, steps, ok, impl.Height(s))
			}
		}
	}
}

func TestStepsAtEachLengthOfABlock(t *testing.T) {
	for many := range 20 {
		for _, ahead := range []string{"", "/1|", "/1|0>0:0#0,0>0:0#0"} {
			s := ahead + "/2|" + strings.TrimSuffix(strings.Repeat("1>2:3#4,", many), ",")
			if got := impl.NameOk(s); got != (many <= 2) {
				t.Errorf("NameOk(%q) = %v", s, got)
			}
			if got := impl.NameOf(ahead, 2, slices.Repeat([]impl.Tx{{From: 1, To: 2, Amount: 3, Nonce: 4}}, many)); many <= 2 && got != s || many > 2 && got != "" {
				t.Errorf("%d payments behind %q: NameOf = %q", many, ahead, got)
			}
		}
	}
}

func TestNameOf(t *testing.T) {
	five, one := impl.Tx{To: 1, Amount: 5}, impl.Tx{From: 3, To: 2, Amount: 1000, Nonce: 99}
	full := nameByWords(chainOf(viewsFrom(1, 30)...))
	almost := nameByWords(chainOf(viewsFrom(1, 29)...))
	cases := []struct {
		name string
		up   string
		view int
		list []impl.Tx
		want string
	}{
		{"behind the beginning", "", 2, []impl.Tx{five}, "/2|0>1:5#0"},
		{"without payments", "", 1, nil, "/1|"},
		{"with an empty list", "", 60, []impl.Tx{}, "/60|"},
		{"behind a name", "/2|0>1:5#0", 3, nil, "/2|0>1:5#0/3|"},
		{"behind a name, with payments", "/2|", 60, []impl.Tx{one, five}, "/2|/60|3>2:1000#99,0>1:5#0"},
		{"one payment twice", "/2|0>1:5#0", 4, []impl.Tx{five, five}, "/2|0>1:5#0/4|0>1:5#0,0>1:5#0"},
		{"more digits than the view ahead", "/9|", 10, nil, "/9|/10|"},
		{"up to MaxHeight", almost, 30, []impl.Tx{five}, almost + "/30|0>1:5#0"},
		{"behind MaxHeight", full, 31, nil, ""},
		{"view 0", "", 0, nil, ""},
		{"below 0", "", -1, nil, ""},
		{"above MaxView", "", 61, nil, ""},
		{"far above MaxView", "", 1 << 40, nil, ""},
		{"the least number", "", math.MinInt, nil, ""},
		{"the greatest number", "", math.MaxInt, nil, ""},
		{"above MaxView, behind it", "/60|", 61, nil, ""},
		{"the same view", "/2|0>1:5#0/3|", 3, nil, ""},
		{"below the last view, above the first", "/2|/9|", 8, nil, ""},
		{"below all", "/2|/9|", 1, []impl.Tx{five}, ""},
		{"less by its digits alone", "/10|", 9, nil, ""},
		{"more than MaxBlock", "", 1, []impl.Tx{five, five, five}, ""},
		{"behind no name", "?", 5, nil, ""},
		{"behind half a step", "/", 5, nil, ""},
		{"behind a view alone", "/2", 5, nil, ""},
		{"behind views that do not go up", "/3|/3|", 5, nil, ""},
		{"behind a name and something", "/2|x", 5, nil, ""},
		{"behind a name and a mark", "/2|/", 5, nil, ""},
		{"behind a name with too many payments", "/2|0>1:5#0,0>1:5#0,0>1:5#0", 5, nil, ""},
	}
	for _, c := range cases {
		if got := impl.NameOf(c.up, c.view, c.list); got != c.want {
			t.Errorf("%s: NameOf(%q, %d, %v) = %q, want %q", c.name, c.up, c.view, c.list, got, c.want)
		}
	}
}

func TestNameOfRefusesWhatIsNotTxOk(t *testing.T) {
	right := impl.Tx{From: 1, To: 2, Amount: 3, Nonce: 4}
	for _, up := range []string{"", "/2|0>1:5#0", "?"} {
		for _, x := range wrongTxs() {
			for _, list := range [][]impl.Tx{{x}, {x, right}, {right, x}, {x, x}, {right, right, x}, {x, right, right}} {
				if got := impl.NameOf(up, 5, list); got != "" {
					t.Errorf("NameOf(%q, 5, %v) = %q", up, list, got)
				}
			}
		}
	}
}

func TestNameOfBehindWhatIsNoName(t *testing.T) {
	for _, up := range wrongNames() {
		for _, view := range []int{1, 30, 60} {
			for _, list := range [][]impl.Tx{nil, {{}}, {{}, {}}} {
				if got := impl.NameOf(up, view, list); got != "" {
					t.Errorf("NameOf(%q, %d, %v) = %q", up, view, list, got)
				}
			}
		}
	}
}

// TestNameOfTellsWhatStepsReads puts a step behind each name: where the words
// allow it, the steps of what is told are those of up, and that one.
func TestNameOfTellsWhatStepsReads(t *testing.T) {
	told := 0
	for _, steps := range rightChains() {
		up := nameByWords(steps)
		for view := -1; view <= 62; view++ {
			for _, list := range [][]impl.Tx{nil, {{}}, sampleTxs()[1:3], sampleTxs()[3:5], sampleTxs()[:3]} {
				more := append(cloneSteps(steps), impl.Step{View: view, Txs: list})
				want := nameByWords(more)
				_, right := stepsByWords(want)
				if !right {
					want = ""
				}
				name := impl.NameOf(up, view, list)
				if name != want {
					t.Fatalf("NameOf(%q, %d, %v) = %q, want %q", up, view, list, name, want)
				}
				if !right {
					continue
				}
				told++
				if got, ok := impl.Steps(name); !ok || !sameSteps(got, more) {
					t.Fatalf("Steps(%q) = %v, %v, want %v", name, got, ok, more)
				}
				if impl.UpOf(name) != up || impl.ViewOf(name) != view || impl.Height(name) != len(steps)+1 || !impl.Extends(name, up) || impl.Extends(up, name) {
					t.Fatalf("%q: UpOf %q, ViewOf %d, Height %d", name, impl.UpOf(name), impl.ViewOf(name), impl.Height(name))
				}
			}
		}
	}
	if told < 500 {
		t.Errorf("%d names alone were told", told)
	}
}

func TestUpOfAndViewOf(t *testing.T) {
	cases := []struct {
		s    string
		up   string
		view int
	}{
		{"", "", 0},
		{"/1|", "", 1},
		{"/60|", "", 60},
		{"/2|0>1:5#0", "", 2},
		{"/2|0>1:5#0/3|", "/2|0>1:5#0", 3},
		{"/2|/3|0>1:5#0,0>1:5#0", "/2|", 3},
		{"/9|/10|/60|1>1:1#1", "/9|/10|", 60},
		{"/3|/3|", "", 0},
		{"/2|/3", "", 0},
		{"/2|x", "", 0},
		{"?", "", 0},
	}
	for _, c := range cases {
		if up, view := impl.UpOf(c.s), impl.ViewOf(c.s); up != c.up || view != c.view {
			t.Errorf("%q: UpOf %q, ViewOf %d, want %q, %d", c.s, up, view, c.up, c.view)
		}
	}
}

func TestANameIsPutTogetherFromItsParts(t *testing.T) {
	for _, name := range rightNames() {
		if name == "" {
			continue
		}
		steps, _ := impl.Steps(name)
		if got := impl.NameOf(impl.UpOf(name), impl.ViewOf(name), steps[len(steps)-1].Txs); got != name {
			t.Errorf("NameOf of the parts of %q = %q", name, got)
		}
		again := ""
		for i, step := range steps {
			again = impl.NameOf(again, step.View, step.Txs)
			if impl.Height(again) != i+1 || !impl.Extends(name, again) {
				t.Errorf("step %d of %q: %q", i, name, again)
			}
		}
		if again != name {
			t.Errorf("all steps of %q give %q", name, again)
		}
	}
}

func TestUpOfGoesDownToTheBeginning(t *testing.T) {
	for _, steps := range rightChains() {
		name := nameByWords(steps)
		for left := len(steps); left > 0; left-- {
			if impl.Height(name) != left || impl.ViewOf(name) != steps[left-1].View {
				t.Fatalf("%q: Height %d, ViewOf %d", name, impl.Height(name), impl.ViewOf(name))
			}
			name = impl.UpOf(name)
			if want := nameByWords(steps[:left-1]); name != want {
				t.Fatalf("%d steps left: %q, want %q", left-1, name, want)
			}
		}
		if impl.Height(name) != 0 || impl.UpOf(name) != "" {
			t.Errorf("at the beginning: %q, UpOf %q", name, impl.UpOf(name))
		}
	}
}

func TestTxsIn(t *testing.T) {
	a, b, c := impl.Tx{To: 1, Amount: 5}, impl.Tx{From: 3, To: 2, Amount: 1000, Nonce: 99}, impl.Tx{From: 1, Nonce: 7}
	cases := []struct {
		s    string
		want []impl.Tx
	}{
		{"", nil},
		{"/1|", nil},
		{"/1|/2|/3|", nil},
		{"/1|0>1:5#0", []impl.Tx{a}},
		{"/1|3>2:1000#99,0>1:5#0", []impl.Tx{b, a}},
		{"/1|1>0:0#7/2|0>1:5#0", []impl.Tx{c, a}},
		{"/1|0>1:5#0/2|/3|3>2:1000#99,1>0:0#7/4|", []impl.Tx{a, b, c}},
		{"/1|0>1:5#0/2|0>1:5#0", []impl.Tx{a, a}},
		{"/1|0>1:5#0/1|", nil},
		{"/1|0>1:5#0/2|x", nil},
	}
	for _, c := range cases {
		if got := impl.TxsIn(c.s); !slices.Equal(got, c.want) {
			t.Errorf("TxsIn(%q) = %v, want %v", c.s, got, c.want)
		}
	}
	for _, steps := range rightChains() {
		var want []impl.Tx
		for _, step := range steps {
			want = append(want, step.Txs...)
		}
		if got := impl.TxsIn(nameByWords(steps)); !slices.Equal(got, want) {
			t.Errorf("TxsIn(%q) = %v, want %v", nameByWords(steps), got, want)
		}
	}
}

func TestHeight(t *testing.T) {
	for s, want := range map[string]int{
		"": 0, "/1|": 1, "/60|0>1:5#0,0>1:5#1": 1, "/1|/2|": 2, "/2|0>1:5#0/3|": 2, "/1|/2|/60|": 3,
		"/": -1, "?": -1, "/3|/3|": -1, "/1|/2": -1,
	} {
		if got := impl.Height(s); got != want {
			t.Errorf("Height(%q) = %d, want %d", s, got, want)
		}
	}
}

func TestExtendsAndMeets(t *testing.T) {
	cases := []struct {
		name   string
		s, t   string
		onward bool
		back   bool
	}{
		{"the beginning and itself", "", "", true, true},
		{"a name and the beginning", "/2|0>1:5#0", "", true, false},
		{"a name and itself", "/2|0>1:5#0/3|", "/2|0>1:5#0/3|", true, true},
		{"one step more", "/2|0>1:5#0/3|", "/2|0>1:5#0", true, false},
		{"two steps more", "/2|/3|/4|", "/2|", true, false},
		{"a longer view", "/22|", "/2|", false, false},
		{"a view that begins with another", "/2|/30|", "/2|/3|", false, false},
		{"the same view with a payment more", "/2|0>1:5#0", "/2|", false, false},
		{"the same view with a second payment", "/2|0>1:5#0,0>1:5#1", "/2|0>1:5#0", false, false},
		{"a payment whose text begins with another's", "/2|0>1:5#01", "/2|0>1:5#0", false, false},
		{"a number of two digits", "/2|0>1:5#12", "/2|0>1:5#1", false, false},
		{"such a number, and a step behind it", "/2|0>1:5#12/3|", "/2|0>1:5#1", false, false},
		{"payments in another order", "/2|0>1:5#0,0>1:5#1/3|", "/2|0>1:5#1,0>1:5#0", false, false},
		{"parted at the last step", "/2|/3|/4|", "/2|/3|/5|", false, false},
		{"parted at the last step, by payments", "/2|/3|/4|", "/2|/3|/4|0>0:0#0", false, false},
		{"parted at the first step", "/1|/3|", "/2|/3|", false, false},
		{"the end of another", "/2|/3|", "/3|", false, false},
		{"without the first step", "/1|/2|/3|", "/2|/3|", false, false},
		{"no name and the beginning", "/2|x", "", false, false},
		{"no name and itself", "?", "?", false, false},
		{"no name and its first step", "/2|/2|", "/2|", false, false},
		{"a step that is half there", "/2|/3", "/2|", false, false},
		{"a name and a mark behind it", "/2|/", "/2|", false, false},
		{"one step too many", nameByWords(chainOf(viewsFrom(1, 31)...)), nameByWords(chainOf(viewsFrom(1, 30)...)), false, false},
		{"as many steps as may be", nameByWords(chainOf(viewsFrom(1, 30)...)), nameByWords(chainOf(viewsFrom(1, 29)...)), true, false},
	}
	for _, c := range cases {
		if got := impl.Extends(c.s, c.t); got != c.onward {
			t.Errorf("%s: Extends(%q, %q) = %v", c.name, c.s, c.t, got)
		}
		if got := impl.Extends(c.t, c.s); got != c.back {
			t.Errorf("%s: Extends(%q, %q) = %v", c.name, c.t, c.s, got)
		}
		want := c.onward || c.back
		if one, other := impl.Meets(c.s, c.t), impl.Meets(c.t, c.s); one != want || other != want {
			t.Errorf("%s: Meets(%q, %q) = %v, the other way round %v", c.name, c.s, c.t, one, other)
		}
	}
}

// kinNames has names that share their first steps with others, and some that
// are none.
func kinNames() []string {
	names := rightNames()
	for _, steps := range append(rightChains()[:12], chainOf(viewsFrom(1, 30)...)) {
		for i := range steps {
			parted := cloneSteps(steps[:i+1])
			parted[i].Txs = append(parted[i].Txs[:min(len(parted[i].Txs), 1)], impl.Tx{From: 2, Nonce: 60})
			names = append(names, nameByWords(steps[:i]), nameByWords(parted))
		}
	}
	names = slices.Concat(names, wrongNames()[:60], unsureNames()[:60])
	slices.Sort(names)
	return slices.Compact(names)
}

// TestExtendsAsTheWordsSay holds steps against steps, not texts against texts.
func TestExtendsAsTheWordsSay(t *testing.T) {
	names := kinNames()
	steps := make([][]impl.Step, len(names))
	right := make([]bool, len(names))
	for i, s := range names {
		steps[i], right[i] = stepsByWords(s)
	}
	extends := func(i, j int) bool {
		return right[i] && right[j] && len(steps[j]) <= len(steps[i]) && sameSteps(steps[i][:len(steps[j])], steps[j])
	}
	extended, met := 0, 0
	for i, s := range names {
		for j, o := range names {
			if got := impl.Extends(s, o); got != extends(i, j) {
				t.Fatalf("Extends(%q, %q) = %v", s, o, got)
			}
			if got := impl.Meets(s, o); got != (extends(i, j) || extends(j, i)) {
				t.Fatalf("Meets(%q, %q) = %v", s, o, got)
			} else if got {
				met++
			}
			if extends(i, j) {
				extended++
			}
		}
	}
	if extended < 500 || met < extended+400 {
		t.Errorf("%d pairs alone extend, %d meet", extended, met)
	}
}

func TestAllNamesExtendTheBeginningAndThemselves(t *testing.T) {
	for _, s := range rightNames() {
		if !impl.Extends(s, "") || !impl.Extends(s, s) || !impl.Meets(s, "") || !impl.Meets("", s) || !impl.Meets(s, s) || impl.Extends("", s) != (s == "") {
			t.Errorf("%q: Extends %v %v %v", s, impl.Extends(s, ""), impl.Extends(s, s), impl.Extends("", s))
		}
	}
	for _, s := range wrongNames() {
		for _, o := range []string{"", s, "/2|"} {
			if impl.Extends(s, o) || impl.Extends(o, s) || impl.Meets(s, o) || impl.Meets(o, s) {
				t.Errorf("%q, which is no name, and %q", s, o)
			}
		}
	}
}

func TestChainsAreNewMemory(t *testing.T) {
	for _, steps := range rightChains() {
		name := nameByWords(steps)
		for i := range steps {
			got, _ := impl.Steps(name)
			spoilTxs(got[i].Txs)
			want := cloneSteps(steps)
			for j := range want[i].Txs {
				want[i].Txs[j] = got[i].Txs[j]
			}
			if !sameSteps(got, want) {
				t.Fatalf("Steps(%q): what is written into step %d stands in another one", name, i)
			}
		}
		spoilTxs(impl.TxsIn(name))
		if got, ok := impl.Steps(name); !ok || !sameSteps(got, steps) {
			t.Fatalf("Steps(%q) = %v, %v behind other calls", name, got, ok)
		}
	}
}

func TestNameOfWritesIntoNoArgument(t *testing.T) {
	for _, list := range append(rightPools(), wrongPools()[:30]...) {
		for _, up := range []string{"", "/2|0>1:5#0", "?"} {
			given, whole := poolWithRoom(list)
			before := slices.Clone(whole)
			impl.NameOf(up, 5, given)
			if !slices.Equal(whole, before) {
				t.Fatalf("NameOf(%q, 5, %v) wrote into its argument: %v", up, list, whole)
			}
		}
	}
}

func TestNamesOfGreatTexts(t *testing.T) {
	for _, piece := range []string{"/", "|", "/1|", "/1|0>1:5#0", "0", ",", "/60|0>1:5#0,", "\xff"} {
		s := strings.Repeat(piece, 200000)
		if impl.NameOk(s) || impl.Extends(s, "") || impl.NameOf(s, 60, nil) != "" || impl.UpOf(s) != "" {
			t.Errorf("%q many times is a name", piece)
		}
	}
}
