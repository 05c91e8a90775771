package tests

import (
	"fmt"
	"strings"
	"testing"

	"loop.example/g00293/impl"
)

// wantShown looks what is shown of what code leaves; nothing of that is loaded.
func wantShown(t *testing.T, what string, res impl.Ty, code string, text string) {
	t.Helper()
	p := running(bodyOf(res, code+"return"), funBlock(tyInt, tyInt, "arg; return"), funBlock(tyText, tyText, "env 0; return", tyText))
	if !impl.Check(p, nil) {
		t.Fatalf("%s: the test's own code", what)
	}
	c := plainTrial(what, p)
	got := wantEnd(t, c, impl.OutHalt, 0, text, len(p.Blocks[0].Code))
	c.fuel = got.Steps - 1
	if ahead := c.run(); !sameHeap(ahead.Heap, got.Heap) {
		t.Errorf("%s: the heap is another one behind what was shown", what)
	}
}

// tyNest is a type within so many refs, or pairs as the first or second part beside an int.
func tyNest(count int, kind int, second bool, ty impl.Ty) impl.Ty {
	for range count {
		switch {
		case kind == impl.TyRef:
			ty = inRef(ty)
		case second:
			ty = tyOf(kind, tyInt, ty)
		default:
			ty = tyOf(kind, ty, tyInt)
		}
	}
	return ty
}

func TestShown(t *testing.T) {
	pair := func(a impl.Ty, b impl.Ty) impl.Ty { return tyOf(impl.TyPair, a, b) }
	fun := tyOf(impl.TyFun, tyInt, tyInt)
	for _, c := range []struct {
		res  impl.Ty
		code string
		text string
	}{
		{tyUnit, "unit; ", "()"}, {tyInt, "int 0; ", "0"}, {tyInt, "int -1; ", "-1"}, {tyInt, "int 1000000; ", "1000000"},
		{tyText, "lit; ", `""`}, {tyText, "lit a, b (c) .. #1; ", `"a, b (c) .. #1"`}, {tyText, litsOf(60, "z"), `"` + strings.Repeat("z", 60) + `"`},
		{fun, "close 1; ", "fn"}, {tyOf(impl.TyFun, tyText, tyText), "lit a; close 2; ", "fn"},
		{pair(tyUnit, tyUnit), "unit; unit; pair; ", "((), ())"}, {pair(tyText, fun), "lit a; close 1; pair; ", `("a", fn)`}, {pair(pair(tyInt, tyInt), tyInt), "int 1; int 2; pair; int 3; pair; ", "((1, 2), 3)"},
		{inRef(tyUnit), "unit; ref; ", "ref(())"}, {inRef(inRef(tyText)), "lit; ref; ref; ", `ref(ref(""))`}, {inRef(fun), "close 1; ref; ", "ref(fn)"}, {inRef(pair(tyInt, tyInt)), "int 1; int 2; pair; ref; ", "ref((1, 2))"},
		{tyData(0), "con 0 0; ", "#0"}, {tyData(0), "int -5; con 0 1; ", "#1(-5)"}, {tyData(0), "lit q; int 4; con 0 2; ", `#2("q", 4)`}, {tyData(0), "int 4; unit; lit q; con 0 3; ", `#3(4, (), "q")`},
		{tyData(1), "int 1; int 2; con 1 0; con 1 1; con 1 1; ", "#1(1, #1(2, #0))"}, {pair(tyData(1), inRef(tyData(0))), "con 1 0; con 0 0; ref; pair; ", "(#0, ref(#0))"},
		{tyData(2), "lit l; con 2 0; lit m; con 2 0; lit r; con 2 0; con 2 1; ", `#1(#0("l"), #0("m"), #0("r"))`},
	} {
		wantShown(t, c.text, c.res, c.code, c.text)
	}
}

// TestShownDeep: refs, datas and pairs within MaxShow of them, with themselves, are shown; units, ints, texts and functions wherever they are.
func TestShownDeep(t *testing.T) {
	for _, leaf := range []struct {
		ty   impl.Ty
		code string
		text string
		made bool // whether it is a ref, a data or a pair
	}{
		{tyUnit, "unit; ", "()", false}, {tyInt, "int 7; ", "7", false}, {tyText, "lit ab; ", `"ab"`, false},
		{tyData(0), "con 0 0; ", "#0", true}, {tyData(0), "int 5; con 0 1; ", "#1(5)", true},
	} {
		for count := 5; count <= impl.MaxShow; count++ {
			text := leaf.text
			if count == impl.MaxShow && leaf.made {
				text = ".."
			}
			what := fmt.Sprint(leaf.text, " within ", count)
			wantShown(t, what+" refs", tyNest(count, impl.TyRef, false, leaf.ty), leaf.code+strings.Repeat("ref; ", count), strings.Repeat("ref(", count)+text+strings.Repeat(")", count))
			wantShown(t, what+" pairs, first", tyNest(count, impl.TyPair, false, leaf.ty), leaf.code+strings.Repeat("int 1; pair; ", count), strings.Repeat("(", count)+text+strings.Repeat(", 1)", count))
			wantShown(t, what+" pairs, second", tyNest(count, impl.TyPair, true, leaf.ty), strings.Repeat("int 1; ", count)+leaf.code+strings.Repeat("pair; ", count), strings.Repeat("(1, ", count)+text+strings.Repeat(")", count))
		}
	}
	for _, c := range []struct {
		count int
		text  string
	}{
		{0, "#0"}, {1, "#1(1, #0)"}, {2, "#1(1, #1(2, #0))"}, {6, "#1(1, #1(2, #1(3, #1(4, #1(5, #1(6, #0))))))"}, {7, "#1(1, #1(2, #1(3, #1(4, #1(5, #1(6, #1(7, #0)))))))"},
		{8, "#1(1, #1(2, #1(3, #1(4, #1(5, #1(6, #1(7, #1(8, ..))))))))"}, {9, "#1(1, #1(2, #1(3, #1(4, #1(5, #1(6, #1(7, #1(8, ..))))))))"}, {40, "#1(1, #1(2, #1(3, #1(4, #1(5, #1(6, #1(7, #1(8, ..))))))))"},
	} {
		code := ""
		for k := range c.count {
			code += fmt.Sprint("int ", k+1, "; ")
		}
		wantShown(t, fmt.Sprint("a list of ", c.count), tyData(1), code+"con 1 0; "+strings.Repeat("con 1 1; ", c.count), c.text)
	}
	wantShown(t, "a list in a pair", tyOf(impl.TyPair, tyData(1), tyInt), strings.Repeat("int 4; ", 7)+"con 1 0; "+strings.Repeat("con 1 1; ", 7)+"int 3; pair; ", "(#1(4, #1(4, #1(4, #1(4, #1(4, #1(4, #1(4, ..))))))), 3)")
	wantShown(t, "a list in two refs", inRef(inRef(tyData(1))), strings.Repeat("int 4; ", 5)+"con 1 0; "+strings.Repeat("con 1 1; ", 5)+"ref; ref; ", "ref(ref(#1(4, #1(4, #1(4, #1(4, #1(4, #0)))))))")
}

// TestShownInTurns: what is deeper than MaxShow may be of each kind.
func TestShownInTurns(t *testing.T) {
	fun := tyOf(impl.TyFun, tyInt, tyInt)
	pair := tyOf(impl.TyPair, tyInt, tyData(0))
	for _, c := range []struct {
		what   string
		cons   [][]impl.Ty
		res    impl.Ty
		code   string
		text   string
		locals []impl.Ty
	}{
		{"a fun at the end", [][]impl.Ty{{fun}, {tyData(0)}}, tyData(0), "close 1; con 0 0; 7*con 0 1", "#1(#1(#1(#1(#1(#1(#1(#0(fn))))))))", nil},
		{"a fun that is deeper", [][]impl.Ty{{fun}, {tyData(0)}}, tyData(0), "close 1; con 0 0; 8*con 0 1", "#1(#1(#1(#1(#1(#1(#1(#1(..))))))))", nil},
		{"a data behind pairs", [][]impl.Ty{nil, {pair}}, tyData(0), "4*int 1; con 0 0" + strings.Repeat("; pair; con 0 1", 4), "#1((1, #1((1, #1((1, #1((1, ..))))))))", nil},
		{"a pair behind datas", [][]impl.Ty{nil, {pair}}, pair, "5*int 1; con 0 0" + strings.Repeat("; pair; con 0 1", 4) + "; pair", "(1, #1((1, #1((1, #1((1, #1(..))))))))", nil},
		{"a round of datas and refs", [][]impl.Ty{nil, {inRef(tyData(0))}}, tyData(0), "con 0 0; ref; set 0; get 0; get 0; con 0 1; write; set 1; get 0; con 0 1", "#1(ref(#1(ref(#1(ref(#1(ref(..))))))))", []impl.Ty{inRef(tyData(0)), tyUnit}},
		{"a round of refs and datas", [][]impl.Ty{nil, {inRef(tyData(0))}}, inRef(tyData(0)), "con 0 0; ref; set 0; get 0; get 0; con 0 1; write; set 1; get 0", "ref(#1(ref(#1(ref(#1(ref(#1(..))))))))", []impl.Ty{inRef(tyData(0)), tyUnit}},
	} {
		p := running(bodyOf(c.res, c.code+"; return", c.locals...), funBlock(tyInt, tyInt, "arg; return"))
		p.Layouts = []impl.Layout{{Cons: c.cons}}
		wantEnd(t, plainTrial(c.what, p), impl.OutHalt, 0, c.text, len(p.Blocks[0].Code))
	}
}

// treeOf is code that leaves a tree in local 0 whose leaves are a text of so many bytes; each part stands three times in the next one.
func treeOf(depth int, size int) (string, string) {
	code, text := litsOf(size, "w")+"con 2 0; set 0; ", fmt.Sprintf("#0(%q)", strings.Repeat("w", size))
	for range depth {
		code += "get 0; get 0; get 0; con 2 1; set 0; "
		text = "#1(" + text + ", " + text + ", " + text + ")"
	}
	return code, text
}

// TestLongShown: at most the first MaxBytes bytes.
func TestLongShown(t *testing.T) {
	cut := map[bool]int{}
	for depth := range impl.MaxShow {
		for _, size := range []int{0, 1, 7, 34, 35, 60} {
			code, text := treeOf(depth, size)
			p := running(bodyOf(tyData(2), code+"get 0; return", tyData(2)))
			wantEnd(t, plainTrial(fmt.Sprint("depth ", depth, ", size ", size), p), impl.OutHalt, 0, text[:min(len(text), impl.MaxBytes)], len(p.Blocks[0].Code))
			cut[len(text) > impl.MaxBytes]++
		}
	}
	if cut[true] < 5 || cut[false] < 20 {
		t.Error("the test's own trees:", cut)
	}
	// With two texts beside it a tree has just MaxBytes bytes, or a few less or more.
	res := tyOf(impl.TyPair, tyData(2), tyOf(impl.TyPair, tyText, tyText))
	code, text := treeOf(6, 31)
	for size := 38; size < 48; size++ {
		p := running(bodyOf(res, code+"get 0; "+litsOf(60, "a")+litsOf(size, "b")+"pair; pair; return", tyData(2)))
		whole := fmt.Sprintf("(%s, (%q, %q))", text, strings.Repeat("a", 60), strings.Repeat("b", size))
		if len(whole) != impl.MaxBytes-43+size {
			t.Error("the test's own text:", len(whole))
		}
		wantEnd(t, plainTrial(fmt.Sprint(len(whole), " bytes"), p), impl.OutHalt, 0, whole[:min(len(whole), impl.MaxBytes)], len(p.Blocks[0].Code))
	}
}
