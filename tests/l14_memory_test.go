package tests

import (
	"bytes"
	"slices"
	"strings"
	"testing"

	"loop.example/g00293/impl"
)

// freeTrials are of all kinds of ends without a heap, and such as are refused.
func freeTrials() []trial {
	list := memoryTrials()
	add := func(what string, p impl.Program) { list = append(list, plainTrial(what, p)) }
	add("a literal that is printed again and again", running(bodyOf(tyText, "lit ab; set 0; get 0; foreign 0; set 1; get 0; foreign 0; set 1; lit ab; foreign 0; set 1; get 0; return", tyText, tyUnit)))
	add("a literal that is shown", running(bodyOf(tyText, "lit ab; return")))
	add("a literal that is joined to itself", running(bodyOf(tyText, "lit ab; set 0; get 0; get 0; cat; set 1; get 1; lit; cat; return", tyText, tyText)))
	add("a literal in a cell in a pair", running(bodyOf(tyOf(impl.TyPair, inRef(tyText), tyInt), "lit ab; ref; int 1; pair; return")))
	return list
}

func TestRunFreeHasMemoryOfItsOwn(t *testing.T) {
	kinds := map[int]int{}
	for _, c := range freeTrials() {
		wantMemoryOfItsOwn(t, c, func(c trial) []impl.Outcome { return []impl.Outcome{c.free(), c.free()} })
		kinds[c.free().Kind]++
	}
	if len(kinds) != 5 || kinds[impl.OutRefused] < 5 {
		t.Error("the test's own trials:", kinds)
	}
}

// TestRunFreeOfPartsThatShare: a program whose blocks and types are one list, and a world of one list with another.
func TestRunFreeOfPartsThatShare(t *testing.T) {
	types, lit := []impl.Ty{tyText, tyText}, []byte("one")
	pair := impl.Ty{Kind: impl.TyPair, Args: types}
	b := impl.Block{Env: types, Locals: types, Arg: tyText, Res: pair, Code: codeOf("env 0; set 0; arg; set 1; get 0; get 1; pair; return")}
	first := impl.Block{Res: pair, Locals: types, Code: codeOf("lit; lit; close 1; lit; call; return")}
	for i := range first.Code {
		if first.Code[i].Op == impl.InLit {
			first.Code[i].Lit = lit
		}
	}
	numbers := []int{7, 8, 9}
	c := plainTrial("parts that share", impl.Program{Blocks: []impl.Block{first, b, b}})
	c.w, c.grants = impl.World{Draws: numbers}, numbers
	got := wantFreeEnd(t, c, impl.OutHalt, 0, `("one", "one")`, 14)
	all := newRoll()
	enrol(all, numbers, isSpareWord)
	if all.outcome(got); all.shared || string(lit) != "one" || !slices.Equal(numbers, []int{7, 8, 9}) {
		t.Error("parts that share:", string(lit), numbers)
	}
}

func TestRunFreeKeepsNothing(t *testing.T) {
	turn := 0
	wantNothingKept(t, 147, freeTrials(), func(c trial) impl.Outcome {
		if turn++; turn%10 == 0 {
			c.run()
		}
		return c.free()
	})
}

func TestRunFreeByManyAtOnce(t *testing.T) {
	wantSameAtOnce(t, freeTrials(), trial.free)
}

// shownWithin is what a value is shown as, within MaxBytes.
func shownWithin(v impl.Val, cells []impl.Val) string {
	text := rawValShown(v, cells, 1)
	return text[:min(len(text), impl.MaxBytes)]
}

// memoryVals are values of all kinds, and cells.
func memoryVals() ([]impl.Val, []impl.Val) {
	cells := []impl.Val{valInt(5), valRef(1), valPair(valRef(2), valText("c"), valRef(0)), valText("cell")}
	list := []impl.Val{
		{}, valInt(-3), valText(""), valText("ab"), valText(strings.Repeat("long", impl.MaxBytes)), valOf(impl.TyFun, valInt(1), valText("env")), valRef(0), valRef(2), valRef(3), valRef(4),
		valPair(), valPair(valText("a"), valText("b")), valData(0), valData(2, valText("f"), valPair(valInt(1), valRef(1))), valOf(77, valText("x")), deepVal(12), valPair(slices.Repeat([]impl.Val{valText("many")}, 9000)...),
	}
	w := &walk{state: 148}
	for range 60 {
		list = append(list, w.someVal(1+w.below(6)))
	}
	return list, cells
}

var spareVal = impl.Val{Kind: impl.TyInt, N: spareWord}

func isSpareVal(v impl.Val) bool {
	return v.Kind == spareVal.Kind && v.N == spareVal.N
}

func sameVal(a impl.Val, b impl.Val) bool {
	return a.Kind == b.Kind && a.N == b.N && sameText(a.Text, b.Text) && slices.EqualFunc(a.List, b.List, sameVal)
}

// roomyVals answers values in memory of their own, with filled room behind all lists.
func roomyVals(list []impl.Val) []impl.Val {
	list = withSpare(list, spareVal)
	for i, v := range list {
		v.Text = roomy(string(v.Text))
		v.List = roomyVals(v.List)
		list[i] = v
	}
	return list
}

func (r *roll) vals(list []impl.Val) {
	enrol(r, list, isSpareVal)
	for _, v := range list {
		r.text(v.Text)
		r.vals(v.List)
	}
}

func spoilVals(list []impl.Val) {
	for i, v := range list {
		scribble(v.Text)
		spoilVals(v.List)
		list[i] = spareVal
	}
}

func TestShowValHasMemoryOfItsOwn(t *testing.T) {
	vals, cells := memoryVals()
	for i, v := range vals {
		plain := shownWithin(v, cells)
		arg := roomyVals([]impl.Val{v})
		roomyCells := roomyVals(cells)
		first, second := impl.ShowVal(arg[0], roomyCells), impl.ShowVal(arg[0], roomyCells)
		all := newRoll()
		all.vals(arg)
		all.vals(roomyCells)
		if all.spoilt || !sameVal(arg[0], v) || !slices.EqualFunc(roomyCells, cells, sameVal) {
			t.Errorf("value %d: an argument was changed", i)
		}
		all.text(first)
		if all.text(second); all.shared {
			t.Errorf("value %d: lists that share memory", i)
		}
		if bytes.IndexByte(first[:cap(first)], spareByte) != strings.IndexByte(plain, spareByte) {
			t.Errorf("value %d: what lies behind a list was handed out", i)
		}
		spoilVals(arg)
		spoilVals(roomyCells)
		if string(first) != plain || string(second) != plain {
			t.Errorf("value %d: %.200q, not %.200q", i, first, plain)
		}
		scribble(first)
		if string(second) != plain || string(impl.ShowVal(v, cells)) != plain {
			t.Errorf("value %d: an answer was kept", i)
		}
	}
}

// TestShowValOfPartsThatShare: a value whose parts are one list, which is the cells' too.
func TestShowValOfPartsThatShare(t *testing.T) {
	text := []byte("xyz")
	list := []impl.Val{{Kind: impl.TyText, Text: text}, valRef(0), {Kind: impl.TyText, Text: text[:1]}}
	v := valPair(impl.Val{Kind: impl.TyData, List: list}, impl.Val{Kind: impl.TyPair, List: list[:2]}, impl.Val{Kind: 9, List: list[2:]})
	wantVal(t, "parts that share", v, list, `(#0("xyz", ref("xyz"), "x"), ("xyz", ref("xyz")), ("x"))`)
	wantVal(t, "fewer cells", v, list[:0], `(#0("xyz", ref, "x"), ("xyz", ref), ("x"))`)
	if string(text) != "xyz" {
		t.Errorf("parts that share: %q", text)
	}
}

func TestShowValKeepsNothing(t *testing.T) {
	vals, cells := memoryVals()
	w := &walk{state: 149}
	for range 3000 {
		i := w.below(len(vals))
		if got, want := string(impl.ShowVal(vals[i], cells)), shownWithin(vals[i], cells); got != want {
			t.Fatalf("value %d: %.200q, not %.200q", i, got, want)
		}
		if w.below(5) == 0 {
			scribble(impl.ShowVal(vals[i], nil))
		}
	}
}
