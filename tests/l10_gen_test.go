package tests

import (
	"fmt"
	"math"
	"slices"
	"strings"
	"testing"

	"loop.example/g00293/impl"
)

func sayTypes(list []impl.Ty) string {
	var texts []string
	for _, ty := range list {
		texts = append(texts, rawText(ty))
	}
	return strings.Join(texts, " ")
}

// sayHead says all of a block but its code: `ENV | ARG > RES | LOCALS`.
func sayHead(b impl.Block) string {
	return sayTypes(b.Env) + " | " + rawText(b.Arg) + " > " + rawText(b.Res) + " | " + sayTypes(b.Locals)
}

// sameBlockAs holds a block against `ENV | ARG > RES | LOCALS | CODE`, the code as codeOf reads it.
func sameBlockAs(b impl.Block, text string) bool {
	parts := strings.SplitN(text, "|", 4)
	for i := range parts {
		parts[i] = strings.TrimSpace(parts[i])
	}
	return sayHead(b) == strings.Join(parts[:3], " | ") && slices.EqualFunc(b.Code, codeOf(parts[3]), sameIns)
}

// wantBlocks looks for a program with just these blocks, which is as the promise says.
func wantBlocks(t *testing.T, what string, w impl.Whole, blocks ...string) {
	t.Helper()
	p, ok := impl.Gen(w)
	same := ok && len(p.Blocks) == len(blocks) && slices.EqualFunc(p.Layouts, w.Layouts, sameLayout)
	for i := 0; same && i < len(blocks); i++ {
		same = sameBlockAs(p.Blocks[i], blocks[i])
	}
	if !same {
		t.Errorf("%s: %v\n%s\nnot\n%s", what, ok, sayBlocks(p), strings.Join(blocks, "\n"))
		return
	}
	wantAcceptedWithJust(t, what, p)
}

// wantGen looks for the blocks of a body behind someData.
func wantGen(t *testing.T, text string, blocks ...string) {
	t.Helper()
	wantBlocks(t, text, wholeOf(t, text), blocks...)
}

func wantNoGen(t *testing.T, what string, w impl.Whole) {
	t.Helper()
	if p, ok := impl.Gen(w); ok || !isZeroProgram(p) {
		t.Errorf("%s: %v, %d blocks", what, ok, len(p.Blocks))
	}
}

// wantSomeGen looks for a program that is as the promise says, and answers it.
func wantSomeGen(t *testing.T, what string, w impl.Whole) impl.Program {
	t.Helper()
	p, ok := impl.Gen(w)
	if !ok {
		t.Errorf("%s: refused", what)
		return p
	}
	wantAcceptedWithJust(t, what, p)
	return p
}

func lowVar(n int) impl.Low { return impl.Low{Kind: impl.ExVar, N: n, Ty: tyInt} }

func lowPart(kind int, n int, kids ...impl.Low) impl.Low {
	return impl.Low{Kind: kind, N: n, Ty: tyInt, Kids: kids}
}

func wantFree(t *testing.T, what string, e impl.Low, want ...int) {
	t.Helper()
	if got := impl.FreeOf(e); !slices.Equal(got, want) {
		t.Errorf("%s: %v, not %v", what, got, want)
	}
}

func TestFreeOfKindsThatBind(t *testing.T) {
	x := lowVar
	rec := func(a impl.Low, b impl.Low) impl.Low {
		return impl.Low{Kind: impl.ExRec, N: 1, M: 2, Kids: []impl.Low{a, b}}
	}
	all := lowPart(impl.ExPair, 0, x(1), lowPart(impl.ExPair, 0, x(2), x(3)))
	wantFree(t, "a variable", x(7), 7)
	wantFree(t, "fn of its own", lowPart(impl.ExFn, 1, x(1)))
	wantFree(t, "fn of others", lowPart(impl.ExFn, 1, all), 2, 3)
	wantFree(t, "let in the first Kid", lowPart(impl.ExLet, 1, x(1), x(3)), 1, 3)
	wantFree(t, "let in the second Kid", lowPart(impl.ExLet, 1, x(3), x(1)), 3)
	wantFree(t, "let", lowPart(impl.ExLet, 1, all, all), 1, 2, 3)
	wantFree(t, "let of all", lowPart(impl.ExLet, 1, x(2), all), 2, 3)
	wantFree(t, "try in the first Kid", lowPart(impl.ExTry, 1, x(1), x(3)), 1, 3)
	wantFree(t, "try in the second Kid", lowPart(impl.ExTry, 1, x(3), x(1)), 3)
	wantFree(t, "try", lowPart(impl.ExTry, 2, x(3), all), 1, 3)
	wantFree(t, "rec: N in the first Kid", rec(x(1), lowInt))
	wantFree(t, "rec: N in the second Kid", rec(lowInt, x(1)))
	wantFree(t, "rec: M in the first Kid", rec(x(2), lowInt))
	wantFree(t, "rec: M in the second Kid", rec(lowInt, x(2)), 2)
	wantFree(t, "rec of all in the first Kid", rec(all, lowInt), 3)
	wantFree(t, "rec of all in the second Kid", rec(lowInt, all), 2, 3)
	match := func(kid impl.Low, bodies ...impl.Low) impl.Low {
		e := impl.Low{Kind: impl.ExMatch, Kids: []impl.Low{kid}}
		for i, body := range bodies {
			e.Alts = append(e.Alts, impl.LowAlt{Con: i, Vars: [][]int{{1, 2}, {3}, nil}[i], Body: body})
		}
		return e
	}
	wantFree(t, "match: the Kid", match(all, lowInt, lowInt, lowInt), 1, 2, 3)
	wantFree(t, "match: the first body", match(lowInt, all, lowInt, lowInt), 3)
	wantFree(t, "match: the second body", match(lowInt, lowInt, all, lowInt), 1, 2)
	wantFree(t, "match: the last body", match(lowInt, lowInt, lowInt, all), 1, 2, 3)
	wantFree(t, "match: each of its own", match(x(9), lowPart(impl.ExPair, 0, x(1), x(2)), x(3), x(8)), 8, 9)
	wild := match(x(5), x(1), lowInt)
	wild.Alts[1] = impl.LowAlt{Con: -1, Body: x(1)}
	wantFree(t, "match: the body of `_`", wild, 1, 5)
}

// TestFreeOfKindsThatDoNotBind: whatever N is, all numbers of the Kids are free.
func TestFreeOfKindsThatDoNotBind(t *testing.T) {
	kids := []impl.Low{lowVar(9), lowVar(0), lowVar(4)}
	for kind := range impl.ExCall + 1 {
		if slices.Contains([]int{impl.ExVar, impl.ExFn, impl.ExLet, impl.ExRec, impl.ExTry}, kind) {
			continue
		}
		for count := range 4 {
			want := slices.Clone([]int{9, 0, 4}[:count])
			slices.Sort(want)
			for n := range 10 {
				wantFree(t, fmt.Sprint("kind ", kind, " of ", n), impl.Low{Kind: kind, N: n, M: n, Con: n, Kids: kids[:count]}, want...)
			}
		}
	}
	for _, kind := range []int{impl.ExUnit, impl.ExInt, impl.ExText} {
		wantFree(t, fmt.Sprint("kind ", kind), impl.Low{Kind: kind, N: 5, Lit: []byte("a")})
	}
}

func TestFreeOfWhatIsBoundElsewhere(t *testing.T) {
	x := lowVar
	fn := func(n int, e impl.Low) impl.Low { return lowPart(impl.ExFn, n, e) }
	pair := func(a impl.Low, b impl.Low) impl.Low { return lowPart(impl.ExPair, 0, a, b) }
	wantFree(t, "bound in it, free behind it", pair(fn(1, x(1)), x(1)), 1)
	wantFree(t, "free ahead of it", pair(x(1), fn(1, x(1))), 1)
	wantFree(t, "free in the let's first Kid, bound in the second one", lowPart(impl.ExLet, 1, fn(2, pair(x(1), x(2))), fn(3, pair(x(1), pair(x(2), x(3))))), 1, 2)
	wantFree(t, "bound around what binds another one", fn(1, fn(2, fn(3, pair(x(3), pair(x(2), pair(x(1), x(4))))))), 4)
	wantFree(t, "bound twice, one in the other", fn(1, pair(fn(1, x(1)), x(1))))
	wantFree(t, "bound twice, and free behind both", pair(fn(1, fn(1, x(1))), x(1)), 1)
	wantFree(t, "bound beside", pair(fn(1, x(2)), fn(2, x(1))), 1, 2)
	wantFree(t, "one, many times", pair(pair(x(5), x(5)), pair(x(5), fn(1, x(5)))), 5)
	var list []impl.Low
	for _, n := range []int{30, 2, 17, 2, 999, 0, 30, 1, 17, 5, impl.MaxNum, 3} {
		list = append(list, x(n))
	}
	wantFree(t, "ascending, each once", impl.Low{Kind: impl.ExCon, Kids: list}, 0, 1, 2, 3, 5, 17, 30, 999, impl.MaxNum)
	rec := impl.Low{Kind: impl.ExRec, N: 1, M: 1, Kids: []impl.Low{x(1), x(1)}}
	wantFree(t, "a rec with one number for both", pair(rec, x(2)), 2)
	alt := impl.LowAlt{Vars: []int{4, 4, 4}, Body: x(4)}
	wantFree(t, "an alt with a number twice", pair(impl.Low{Kind: impl.ExMatch, Kids: []impl.Low{lowInt}, Alts: []impl.LowAlt{alt, alt}}, lowInt))
	wantFree(t, "and free behind it", pair(impl.Low{Kind: impl.ExMatch, Kids: []impl.Low{lowInt}, Alts: []impl.LowAlt{alt, alt}}, x(4)), 4)
}

// TestFreeOfWhatIsNoPart: of any tree there are numbers.
func TestFreeOfWhatIsNoPart(t *testing.T) {
	x := lowVar
	wantFree(t, "the zero value", impl.Low{})
	for _, n := range []int{-1, -7, math.MinInt, math.MaxInt, impl.MaxNum + 1} {
		wantFree(t, "a number that is never bound", x(n), n)
		wantFree(t, "bound all the same", lowPart(impl.ExFn, n, x(n)))
		wantFree(t, "bound in its second Kid", lowPart(impl.ExLet, n, lowInt, x(n)))
	}
	wantFree(t, "below 0 comes first", lowPart(impl.ExPair, 0, x(3), x(-3)), -3, 3)
	for _, kind := range []int{-1, impl.ExCall + 1, 99, math.MinInt, math.MaxInt} {
		wantFree(t, fmt.Sprint("kind ", kind), impl.Low{Kind: kind, N: 1, M: 2, Kids: []impl.Low{x(2), x(1)}}, 1, 2)
	}
	wantFree(t, "a variable with Kids", impl.Low{Kind: impl.ExVar, N: 4, Kids: []impl.Low{x(3), x(4)}}, 3, 4)
	wantFree(t, "an int with an alt", impl.Low{Kind: impl.ExInt, N: 4, Alts: []impl.LowAlt{{Vars: []int{3}, Body: lowPart(impl.ExPair, 0, x(3), x(4))}}}, 4)
	wantFree(t, "a let with one Kid", lowPart(impl.ExLet, 1, x(1)), 1)
	wantFree(t, "a let with three Kids", lowPart(impl.ExLet, 1, lowInt, x(1), x(2)), 2)
	wantFree(t, "a try without Kids", lowPart(impl.ExTry, 1))
	wantFree(t, "a rec with one Kid", impl.Low{Kind: impl.ExRec, N: 1, M: 2, Kids: []impl.Low{lowPart(impl.ExPair, 0, x(1), lowPart(impl.ExPair, 0, x(2), x(3)))}}, 3)
	wantFree(t, "a rec without Kids", impl.Low{Kind: impl.ExRec, N: 1, M: 2})
	wantFree(t, "an fn without Kids", lowPart(impl.ExFn, 1))
	wantFree(t, "types that are none", impl.Low{Kind: impl.ExVar, N: 6, Ty: endlessTy(), Fun: endlessTy()}, 6)
	wantFree(t, "an alt of many Vars", impl.Low{Alts: []impl.LowAlt{{Vars: make([]int, 1000000), Body: lowPart(impl.ExPair, 0, x(0), x(1))}}}, 1)
}

func TestFreeOfManyParts(t *testing.T) {
	for _, parts := range []int{2, impl.MaxLow - 1, impl.MaxLow, impl.MaxLow + 1, impl.MaxLow + 2, 5000} {
		wide := impl.Low{Kids: make([]impl.Low, parts-1)}
		alts := impl.Low{Alts: make([]impl.LowAlt, parts-1)}
		deep := lowVar(3)
		for i := range parts - 1 {
			deep = lowPart([]int{impl.ExRaise, impl.ExFst, impl.ExFn}[i%3], 1, deep)
		}
		wide.Kids[parts-2], alts.Alts[0].Body = lowVar(3), lowVar(3)
		for i, e := range []impl.Low{wide, alts, deep} {
			if rawLowNodes(e) != parts {
				t.Fatal("the test's own tree:", parts)
			}
			var want []int
			if parts <= impl.MaxLow {
				want = []int{3}
			}
			wantFree(t, fmt.Sprint("tree ", i, " of ", parts), e, want...)
		}
	}
	for i, e := range rings() {
		wantFree(t, fmt.Sprint("ring ", i), e)
		wantFree(t, fmt.Sprint("a variable and ring ", i), lowPart(impl.ExPair, 0, lowVar(1), e))
	}
	wantFree(t, "many Kids", impl.Low{Kids: slices.Repeat([]impl.Low{lowVar(1)}, 1000000)})
	many := impl.Low{}
	var want []int
	for n := range impl.MaxLow - 1 {
		many.Kids = append(many.Kids, lowVar(2*(impl.MaxLow-n)))
		want = append(want, 2*(n+2))
	}
	wantFree(t, "as many as there may be", many, want...)
}

func TestGenOfEveryKind(t *testing.T) {
	for _, c := range [][]string{
		{"unit", "| unit > unit | | unit; return"},
		{"-7", "| unit > int | | int -7; return"},
		{"1073741823", "| unit > int | | int 1073741823; return"},
		{"-1073741824", "| unit > int | | int -1073741824; return"},
		{`"a b"`, "| unit > text | | lit a b; return"},
		{`""`, "| unit > text | | lit; return"},
		{"(fn x x)", "| unit > (fun unit unit) | | close 1; return", "| unit > unit | | arg; return"},
		{"((fn x (add x 1)) 2)", "| unit > int | | close 1; int 2; call; return", "| int > int | | arg; int 1; add; return"},
		{"(let x 1 (pair x x))", "| unit > (pair int int) | int | int 1; set 0; get 0; get 0; pair; return"},
		{"(rec f x (if x (f (sub x 1)) x) (f 3))", "| unit > int | (fun int int) | close 1; set 0; get 0; int 3; call; return", "| int > int | | arg; if z; self; arg; int 1; sub; call; jump e; z: arg; e: return"},
		{`(if 1 "a" "b")`, "| unit > text | | int 1; if z; lit a; jump e; z: lit b; e: return"},
		{"(pair 1 unit)", "| unit > (pair int unit) | | int 1; unit; pair; return"},
		{"(fst (pair 1 unit))", "| unit > int | | int 1; unit; pair; fst; return"},
		{"(snd (pair 1 unit))", "| unit > unit | | int 1; unit; pair; snd; return"},
		{`(ref "a")`, "| unit > (ref text) | | lit a; ref; return"},
		{"(read (ref 1))", "| unit > int | | int 1; ref; read; return"},
		{"(write (ref 1) 2)", "| unit > unit | | int 1; ref; int 2; write; return"},
		{"Yes", "| unit > (data 0) | | con 0 1; return"},
		{"(Cons 1 Nil)", "| unit > (data 0) | | int 1; con 0 0; con 0 1; return"},
		{`(Both 1 "a")`, "| unit > (data 0) | | int 1; lit a; con 0 0; return"},
		{`(pair Yes (Body 1 "a"))`, "| unit > (pair (data 0) (data 1)) | | con 0 1; int 1; lit a; con 1 2; pair; return"},
		{"(match Yes (No 1) (Yes 2))", "| unit > int | | con 0 1; case 0 n y; n: int 1; jump e; y: int 2; jump e; e: return"},
		{"(match (Cons 1 Nil) (Cons x y x) (Nil 0))", "| unit > int | (data 0) int | int 1; con 0 0; con 0 1; case 0 n c; c: set 0; set 1; get 1; jump e; n: int 0; jump e; e: return"},
		{`(match (Both 1 "a") (Both x y (pair y x)))`, "| unit > (pair text int) | text int | int 1; lit a; con 0 0; case 0 b; b: set 0; set 1; get 0; get 1; pair; jump e; e: return"},
		{"(raise 1)", "| unit > unit | | int 1; raise"},
		{"(try 5 x (add x 1))", "| unit > int | int | try r; int 5; done; jump e; r: set 0; get 0; int 1; add; e: return"},
		{"(add 1 2)", "| unit > int | | int 1; int 2; add; return"},
		{"(sub 1 2)", "| unit > int | | int 1; int 2; sub; return"},
		{"(mul 1 2)", "| unit > int | | int 1; int 2; mul; return"},
		{"(less 1 2)", "| unit > int | | int 1; int 2; less; return"},
		{"(same 1 2)", "| unit > int | | int 1; int 2; same; return"},
		{`(cat "a" "b")`, "| unit > text | | lit a; lit b; cat; return"},
		{`(len "a")`, "| unit > int | | lit a; len; return"},
		{`(print "a")`, "| unit > unit | | lit a; foreign 0; return"},
		{"tick", "| unit > int | | foreign 1; return"},
		{"(draw 1)", "| unit > int | | int 1; foreign 2; return"},
		{"(get 1)", "| unit > int | | int 1; foreign 3; return"},
		{"(put 1 2)", "| unit > unit | | int 1; int 2; foreign 4; return"},
	} {
		wantGen(t, c[0], c[1:]...)
	}
	wantBlocks(t, "the zero value", impl.Whole{}, "| unit > unit | | unit; return")
}

// TestGenOfFunctionsInFunctions: what a block is closed over is handed on through blocks that do not use it.
func TestGenOfFunctionsInFunctions(t *testing.T) {
	for _, c := range [][]string{
		{"(let a 5 (fn x (add x a)))", "| unit > (fun int int) | int | int 5; set 0; get 0; close 1; return", "int | int > int | | arg; env 0; add; return"},
		{"(let a 5 (fn x (fn y (add a 1))))", "| unit > (fun unit (fun unit int)) | int | int 5; set 0; get 0; close 1; return",
			"int | unit > (fun unit int) | | env 0; close 2; return", "int | unit > int | | env 0; int 1; add; return"},
		{"(let a 5 (fn x (fn y (add y (add a x)))))", "| unit > (fun int (fun int int)) | int | int 5; set 0; get 0; close 1; return",
			"int | int > (fun int int) | | env 0; arg; close 2; return", "int int | int > int | | arg; env 0; env 1; add; add; return"},
		// Env stands by the numbers, however they are asked for.
		{`(let a (add 1 1) (let b (cat "b" "") (fn x (pair b (pair a (pair b x))))))`, "| unit > (fun unit (pair text (pair int (pair text unit)))) | int text | int 1; int 1; add; set 0; lit b; lit; cat; set 1; get 0; get 1; close 1; return",
			"int text | unit > (pair text (pair int (pair text unit))) | | env 1; env 0; env 1; arg; pair; pair; pair; return"},
		{`(let a (add 1 1) (let b (cat "b" "") (fn x (fn y (pair b y)))))`, "| unit > (fun unit (fun unit (pair text unit))) | int text | int 1; int 1; add; set 0; lit b; lit; cat; set 1; get 1; close 1; return",
			"text | unit > (fun unit (pair text unit)) | | env 0; close 2; return", "text | unit > (pair text unit) | | env 0; arg; pair; return"},
		// Three deep, the middle ones using nothing of it.
		{"(fn a (fn b (fn c (fn d (add a (add c d))))))", "| unit > (fun int (fun unit (fun int (fun int int)))) | | close 1; return", "| int > (fun unit (fun int (fun int int))) | | arg; close 2; return",
			"int | unit > (fun int (fun int int)) | | env 0; close 3; return", "int | int > (fun int int) | | env 0; arg; close 4; return", "int int | int > int | | env 0; env 1; arg; add; add; return"},
		// Locals of the block around, and its own.
		{"(fn a (let b (add a 1) (fn c (let d (add b c) (fn e (add a (add d e)))))))", "| unit > (fun int (fun int (fun int int))) | | close 1; return",
			"| int > (fun int (fun int int)) | int | arg; int 1; add; set 0; arg; get 0; close 2; return", "int int | int > (fun int int) | int | env 1; arg; add; set 0; env 0; get 0; close 3; return",
			"int int | int > int | | env 0; env 1; arg; add; add; return"},
		// What a try or an alt binds.
		{"(try (fn x x) e (fn x (add x e)))", "| unit > (fun int int) | int | try r; close 1; done; jump e; r: set 0; get 0; close 2; e: return", "| int > int | | arg; return", "int | int > int | | arg; env 0; add; return"},
		{"(match (Cons 1 Nil) (Cons h r (fn x (add h (add x h)))) (Nil (fn y y)))", "| unit > (fun int int) | (data 0) int | int 1; con 0 0; con 0 1; case 0 n c; c: set 0; set 1; get 1; close 1; jump e; n: close 2; jump e; e: return",
			"int | int > int | | env 0; arg; env 0; add; add; return", "| int > int | | arg; return"},
	} {
		wantGen(t, c[0], c[1:]...)
	}
}

// TestEnvByNumbers: another numbering of what is bound gives another order.
func TestEnvByNumbers(t *testing.T) {
	w := wholeOf(t, `(let a (add 1 1) (let b (cat "b" "") (fn x (pair b (pair a x)))))`)
	renumberLow(&w.Body, 0, 50)
	const first = "| unit > (fun unit (pair text (pair int unit))) | int text | int 1; int 1; add; set 0; lit b; lit; cat; set 1; "
	wantBlocks(t, "a is 50", w, first+"get 1; get 0; close 1; return", "text int | unit > (pair text (pair int unit)) | | env 0; env 1; arg; pair; pair; return")
	renumberLow(&w.Body, 1, impl.MaxNum)
	wantBlocks(t, "b is MaxNum", w, first+"get 0; get 1; close 1; return", "int text | unit > (pair text (pair int unit)) | | env 1; env 0; arg; pair; pair; return")
	renumberLow(&w.Body, 2, 0)
	wantBlocks(t, "x is 0", w, first+"get 0; get 1; close 1; return", "int text | unit > (pair text (pair int unit)) | | env 1; env 0; arg; pair; pair; return")
}

func TestGenOfRec(t *testing.T) {
	for _, c := range [][]string{
		{"(rec f x (add x (f x)) 5)", "| unit > int | (fun int int) | close 1; set 0; int 5; return", "| int > int | | arg; self; arg; call; add; return"},
		{"(rec f x (f (add x 0)) f)", "| unit > (fun int unit) | (fun int unit) | close 1; set 0; get 0; return", "| int > unit | | self; arg; int 0; add; call; return"},
		// Used in a function within it: handed on as any other.
		{"(rec f x ((fn y (f (add y x))) 1) (f 2))", "| unit > unit | (fun int unit) | close 1; set 0; get 0; int 2; call; return",
			"| int > unit | | self; arg; close 2; int 1; call; return", "(fun int unit) int | int > unit | | env 0; arg; env 1; add; call; return"},
		{"(rec f x (fn y (fn z (((f (add x 1)) y) (add z 0)))) (((f 1) 2) 3))", "| unit > unit | (fun int (fun int (fun int unit))) | close 1; set 0; get 0; int 1; call; int 2; call; int 3; call; return",
			"| int > (fun int (fun int unit)) | | self; arg; close 2; return", "(fun int (fun int (fun int unit))) int | int > (fun int unit) | | env 0; env 1; arg; close 3; return",
			"(fun int (fun int (fun int unit))) int int | int > unit | | env 0; env 1; int 1; add; call; env 2; call; arg; int 0; add; call; return"},
		// In the second Kid it is a local, also for a function there.
		{"(rec f x (add x 1) (fn y (f y)))", "| unit > (fun int int) | (fun int int) | close 1; set 0; get 0; close 2; return", "| int > int | | arg; int 1; add; return", "(fun int int) | int > int | | env 0; arg; call; return"},
		// Closed over what is outside, but not over itself.
		{"(let a 5 (rec f x (add a (f x)) (f 1)))", "| unit > int | int (fun int int) | int 5; set 0; get 0; close 1; set 1; get 1; int 1; call; return", "int | int > int | | env 0; self; arg; call; add; return"},
		// A rec in a rec: the outer one is no self there.
		{"(rec f x (rec g y (add (f y) (g x)) (g x)) (f 1))", "| unit > int | (fun int int) | close 1; set 0; get 0; int 1; call; return",
			"| int > int | (fun int int) | self; arg; close 2; set 0; get 0; arg; call; return", "(fun int int) int | int > int | | env 0; arg; call; self; env 1; call; add; return"},
		// A rec in the second Kid of a rec.
		{"(rec f x (add x 1) (rec g y (f y) (add (f 1) (g 2))))", "| unit > int | (fun int int) (fun int int) | close 1; set 0; get 0; close 2; set 1; get 0; int 1; call; get 1; int 2; call; add; return",
			"| int > int | | arg; int 1; add; return", "(fun int int) | int > int | | env 0; arg; call; return"},
	} {
		wantGen(t, c[0], c[1:]...)
	}
}

func TestHowLocalsAreNumbered(t *testing.T) {
	for _, c := range [][]string{
		// What is set first is numbered first, though it stands in the other.
		{"(let a (let b (add 1 1) (add b 2)) (pair a a))", "| unit > (pair int int) | int int | int 1; int 1; add; set 0; get 0; int 2; add; set 1; get 1; get 1; pair; return"},
		{`(let a (cat "a" "") (let b (add 1 2) (pair a b)))`, "| unit > (pair text int) | text int | lit a; lit; cat; set 0; int 1; int 2; add; set 1; get 0; get 1; pair; return"},
		{`(pair (let a (add 1 1) a) (let b (cat "b" "") b))`, "| unit > (pair int text) | int text | int 1; int 1; add; set 0; get 0; lit b; lit; cat; set 1; get 1; pair; return"},
		// Each block has its own.
		{`(let a (add 1 1) (let f (fn x (let b (cat x "") (let c (add (len b) a) c))) (let d (f "d") d)))`,
			"| unit > int | int (fun text int) int | int 1; int 1; add; set 0; get 0; close 1; set 1; get 1; lit d; call; set 2; get 2; return",
			"int | text > int | text int | arg; lit; cat; set 0; get 0; len; env 0; add; set 1; get 1; return"},
		// Both ways of an if, and a try within.
		{"(if 1 (let a (add 1 1) a) (try (let b (add 2 2) b) e (let c (add e 1) c)))",
			"| unit > int | int int int int | int 1; if z; int 1; int 1; add; set 0; get 0; jump end; z: try r; int 2; int 2; add; set 1; get 1; done; jump end; r: set 2; get 2; int 1; add; set 3; get 3; end: return"},
	} {
		wantGen(t, c[0], c[1:]...)
	}
	// Vars: the last one first; what `_` takes, too.
	w := sourceOf(t, "(data d 0 (A int text unit) (B text) (C) (D int int text))\n(match C (D x y z (pair x (pair y z))) (_ (let q (add 1 1) (pair q (pair q \"\")))))")
	whole := wantMonoWell(t, w.Datas, wantWell(t, w))
	wantBlocks(t, "three Fields", whole, "| unit > (pair int (pair int text)) | text int int unit text int text int | con 0 2; case 0 a b c d; d: set 0; set 1; set 2; get 2; get 1; get 0; pair; pair; jump e;"+
		"a: set 3; set 4; set 5; jump on; b: set 6; jump on; c: jump on; on: int 1; int 1; add; set 7; get 7; get 7; lit; pair; pair; jump e; e: return")
}

func TestHowBlocksAreNumbered(t *testing.T) {
	for _, c := range []struct {
		text  string
		heads string // of each block but the first one: its argument's type
	}{
		{"(pair (fn a (add a 1)) (fn b (len b)))", "int text"},
		{"(pair (fn a (pair (add a 1) (fn b (len b)))) (fn c (read c)))", "int text (ref unit)"},
		{"(fn a (pair (add a 1) (pair (fn b (len b)) (fn c (read c)))))", "int text (ref unit)"},
		{"(rec f a (pair (add a 1) (fn b (len b))) (pair f (fn c (read c))))", "int text (ref unit)"},
		{"(let f (fn a (fst (pair (add a 1) (fn b (len b))))) (pair f (fn c (read c))))", "int text (ref unit)"},
		{"((fn a (pair (add a 1) (fn b (len b)))) (fst (pair 1 (fn c (read c)))))", "int text (ref unit)"},
		{"(if tick (fn a (add a (len (fst (pair \"\" (fn b (len b))))))) (fn c (add c (fst (pair 1 (fn d (read d)))))))", "int text int (ref unit)"},
		{"(try (fst (pair 1 (fn a (add a 1)))) e (fst (pair e (fn b (len b)))))", "int text"},
	} {
		p := wantSomeGen(t, c.text, wholeOf(t, c.text))
		var heads []string
		for _, b := range p.Blocks[1:] {
			heads = append(heads, rawText(b.Arg))
		}
		if strings.Join(heads, " ") != c.heads {
			t.Errorf("%s: %v, not %s", c.text, heads, c.heads)
		}
	}
}

// threeData has constructors of up to three Fields, and five of them.
const threeData = "(data tri 0 (Tri int text int))\n(data five 0 (A) (B int) (C text int) (D int text int) (E))\n"

func wantThree(t *testing.T, text string, blocks ...string) {
	t.Helper()
	s := sourceOf(t, threeData+text)
	wantBlocks(t, text, wantMonoWell(t, s.Datas, wantWell(t, s)), blocks...)
}

// TestKidsThatDoNotComeBehind: the code ends there, with nothing of what would stand behind.
func TestKidsThatDoNotComeBehind(t *testing.T) {
	for _, c := range [][2]string{
		{"(pair (raise 1) 2)", "(pair unit int) | | int 1; raise"},
		{"(pair 2 (raise 1))", "(pair int unit) | | int 2; int 1; raise"},
		{"(raise (raise 1))", "unit | | int 1; raise"},
		{"(raise (add 2 (raise 1)))", "unit | | int 2; int 1; raise"},
		{"(add (raise 1) 2)", "int | | int 1; raise"},
		{"(add 2 (raise 1))", "int | | int 2; int 1; raise"},
		{"(add (raise 1) (raise 2))", "int | | int 1; raise"},
		{"(len (raise 1))", "int | | int 1; raise"},
		{"((raise 1) 2)", "unit | | int 1; raise"},
		{"(add 1 ((raise 1) tick))", "int | | int 1; int 1; raise"},
		{"(fst (raise 1))", "unit | | int 1; raise"},
		{"(snd (raise 1))", "unit | | int 1; raise"},
		{"(ref (raise 1))", "(ref unit) | | int 1; raise"},
		{"(read (raise 1))", "unit | | int 1; raise"},
		{"(write (raise 1) 2)", "unit | | int 1; raise"},
		{"(write (ref 2) (raise 1))", "unit | | int 2; ref; int 1; raise"},
		{"(let a (raise 1) 2)", "int | | int 1; raise"},
		{"(let a (raise 1) (pair a a))", "(pair unit unit) | | int 1; raise"},
		{"(let a (add 1 1) (raise a))", "unit | int | int 1; int 1; add; set 0; get 0; raise"},
		{"(print (raise 1))", "unit | | int 1; raise"},
		{"(draw (raise 1))", "int | | int 1; raise"},
		{"(get (raise 1))", "int | | int 1; raise"},
		{"(put (raise 1) 2)", "unit | | int 1; raise"},
		{"(put 2 (raise 1))", "unit | | int 2; int 1; raise"},
		{"(Cons (raise 1) Nil)", "(data 0) | | int 1; raise"},
		{"(Cons 2 (raise 1))", "(data 0) | | int 2; int 1; raise"},
		{"(if (raise 1) 2 3)", "int | | int 1; raise"},
		{"(if 1 (raise 2) 3)", "int | | int 1; if z; int 2; raise; z: int 3; return"},
		{"(if 1 2 (raise 3))", "int | | int 1; if z; int 2; jump e; z: int 3; raise; e: return"},
		{"(if 1 (raise 2) (raise 3))", "unit | | int 1; if z; int 2; raise; z: int 3; raise"},
		{"(add (if 1 (raise 2) (raise 3)) tick)", "int | | int 1; if z; int 2; raise; z: int 3; raise"},
		{"(add (if 1 (raise 2) 4) 5)", "int | | int 1; if z; int 2; raise; z: int 4; int 5; add; return"},
		{"(if (if 1 (raise 2) (raise 3)) 4 5)", "int | | int 1; if z; int 2; raise; z: int 3; raise"},
		{"(if 1 (if 2 (raise 3) (raise 4)) 5)", "int | | int 1; if z; int 2; if y; int 3; raise; y: int 4; raise; z: int 5; return"},
		{"(if 1 (if 2 (raise 3) 4) 5)", "int | | int 1; if z; int 2; if y; int 3; raise; y: int 4; jump e; z: int 5; e: return"},
		{"(if 1 2 (if 3 4 (raise 5)))", "int | | int 1; if z; int 2; jump e; z: int 3; if y; int 4; jump e; y: int 5; raise; e: return"},
		{"(try (raise 1) e 2)", "int | int | try s; int 1; raise; s: set 0; int 2; return"},
		{"(try 2 e (raise e))", "int | int | try s; int 2; done; jump b; s: set 0; get 0; raise; b: return"},
		{"(try (raise 1) e (raise e))", "unit | int | try s; int 1; raise; s: set 0; get 0; raise"},
		{"(add (try (raise 1) e (raise e)) tick)", "int | int | try s; int 1; raise; s: set 0; get 0; raise"},
		{"(add 3 (try (raise 1) e 2))", "int | int | int 3; try s; int 1; raise; s: set 0; int 2; add; return"},
		{"(try (try (raise 1) e (raise e)) d 4)", "int | int int | try s; try u; int 1; raise; u: set 0; get 0; raise; s: set 1; int 4; return"},
		{"(try (try (raise 1) e 3) d 4)", "int | int int | try s; try u; int 1; raise; u: set 0; int 3; done; jump b; s: set 1; int 4; b: return"},
		{"(match (raise 1) (No 1) (Yes 2))", "int | | int 1; raise"},
		{"(match Yes (No (raise 1)) (Yes (raise 2)))", "unit | | con 0 1; case 0 n y; n: int 1; raise; y: int 2; raise"},
		{"(match Yes (No (raise 1)) (Yes 2))", "int | | con 0 1; case 0 n y; n: int 1; raise; y: int 2; jump e; e: return"},
		{"(match Yes (No 1) (Yes (raise 2)))", "int | | con 0 1; case 0 n y; n: int 1; jump e; y: int 2; raise; e: return"},
		{"(match Yes (No 1) (_ (raise 2)))", "int | | con 0 1; case 0 n y; n: int 1; jump e; y: jump b; b: int 2; raise; e: return"},
		{"(match Yes (No (raise 1)) (_ (raise 2)))", "unit | | con 0 1; case 0 n y; n: int 1; raise; y: jump b; b: int 2; raise"},
		{"(add (match Yes (No (raise 1)) (Yes (raise 2))) tick)", "int | | con 0 1; case 0 n y; n: int 1; raise; y: int 2; raise"},
		{"(add (match Yes (No (raise 1)) (Yes 2)) 3)", "int | | con 0 1; case 0 n y; n: int 1; raise; y: int 2; jump e; e: int 3; add; return"},
	} {
		wantGen(t, c[0], "| unit > "+c[1])
	}
	for _, c := range [][2]string{
		{`(Tri (raise 1) "a" 2)`, "(data 0) | | int 1; raise"},
		{`(Tri 2 (raise 1) 3)`, "(data 0) | | int 2; int 1; raise"},
		{`(Tri 2 "a" (raise 1))`, "(data 0) | | int 2; lit a; int 1; raise"},
		{`(Tri (raise 1) (raise 2) (raise 3))`, "(data 0) | | int 1; raise"},
		{"(match A (A 1) (E (raise 2)) (_ 3))", "int | int int text int text int | con 0 0; case 0 a b c d e; a: int 1; jump end; e: int 2; raise; b: set 0; jump on; c: set 1; set 2; jump on; d: set 3; set 4; set 5; jump on; on: int 3; jump end; end: return"},
	} {
		wantThree(t, c[0], "| unit > "+c[1])
	}
}

// TestWhatStandsBehindIsNotThere: no block, no local and no cap of a part that nothing comes to; but Env has its numbers.
func TestWhatStandsBehindIsNotThere(t *testing.T) {
	for _, c := range [][]string{
		{"(pair (raise 1) (fn x x))", "| unit > (pair unit (fun unit unit)) | | int 1; raise"},
		{"(pair (raise 1) (let a tick (pair a a)))", "| unit > (pair unit (pair int int)) | | int 1; raise"},
		{"(let a (raise 1) (rec f x (add x (f x)) (f tick)))", "| unit > int | | int 1; raise"},
		{"(pair (raise 1) (try (print \"\") e (put tick e)))", "| unit > (pair unit unit) | | int 1; raise"},
		{"(match (raise tick) (Nil (fn x x)) (Cons h r (fn x h)))", "| unit > (fun unit unit) | | foreign 1; raise"},
		{"(pair (if 1 (raise 1) (raise 2)) (pair (fn x x) (fn y y)))", "| unit > (pair unit (pair (fun unit unit) (fun unit unit))) | | int 1; if z; int 1; raise; z: int 2; raise"},
		// The blocks behind are numbered as if it were not there.
		{"(if 1 (pair (raise 1) (fn x x)) (pair 2 (fn y y)))", "| unit > (pair int (fun unit unit)) | | int 1; if z; int 1; raise; z: int 2; close 1; pair; return", "| unit > unit | | arg; return"},
		{"(if 1 (add (raise 1) (let a tick (add a a))) (let b 2 (add b b)))", "| unit > int | int | int 1; if z; int 1; raise; z: int 2; set 0; get 0; get 0; add; return"},
		// The function's own code ends; where it stands it is closed as any other.
		{"(fn x (raise 1))", "| unit > (fun unit unit) | | close 1; return", "| unit > unit | | int 1; raise"},
		{"(pair (fn x (raise 1)) 2)", "| unit > (pair (fun unit unit) int) | | close 1; int 2; pair; return", "| unit > unit | | int 1; raise"},
		{"(rec f x (add x (raise 1)) (f 2))", "| unit > int | (fun int int) | close 1; set 0; get 0; int 2; call; return", "| int > int | | arg; int 1; raise"},
		{"(rec f x (add x 1) (raise (f 2)))", "| unit > unit | (fun int int) | close 1; set 0; get 0; int 2; call; raise", "| int > int | | arg; int 1; add; return"},
		// What is free in what is not there is in Env all the same.
		{"(let a (add 1 1) (fn x (add (raise 1) a)))", "| unit > (fun unit int) | int | int 1; int 1; add; set 0; get 0; close 1; return", "int | unit > int | | int 1; raise"},
		{"(let a (add 1 1) (fn x (add (raise 1) (fst (pair 1 (fn y a))))))", "| unit > (fun unit int) | int | int 1; int 1; add; set 0; get 0; close 1; return", "int | unit > int | | int 1; raise"},
		{"(fn a (fn b (pair (raise 1) (add a b))))", "| unit > (fun int (fun int (pair unit int))) | | close 1; return", "| int > (fun int (pair unit int)) | | arg; close 2; return", "int | int > (pair unit int) | | int 1; raise"},
		{"(rec f x (add (raise x) (fst (pair 1 (fn y (add x (f x)))))) (f 1))", "| unit > int | (fun int int) | close 1; set 0; get 0; int 1; call; return", "| int > int | | arg; raise"},
	} {
		wantGen(t, c[0], c[1:]...)
	}
}

// TestWhatWildTakes: a way for each constructor that no alt has, ascending, each with locals of its own.
func TestWhatWildTakes(t *testing.T) {
	for _, c := range [][2]string{
		{"(match A (E 5) (D x y z 4) (C x y 3) (B x 2) (_ 1))", "int text int int text int | con 0 0; case 0 a b c d e; e: int 5; jump end; d: set 0; set 1; set 2; int 4; jump end; c: set 3; set 4; int 3; jump end; b: set 5; int 2; jump end; a: jump on; on: int 1; jump end; end: return"},
		{"(match A (A 1) (B x x) (C x y y) (D x y z z) (_ 5))", "int int text int text int | con 0 0; case 0 a b c d e; a: int 1; jump end; b: set 0; get 0; jump end; c: set 1; set 2; get 1; jump end; d: set 3; set 4; set 5; get 3; jump end; e: jump on; on: int 5; jump end; end: return"},
		{"(match A (A 1) (C x y 3) (E 5) (_ 9))", "int text int int text int | con 0 0; case 0 a b c d e; a: int 1; jump end; c: set 0; set 1; int 3; jump end; e: int 5; jump end; b: set 2; jump on; d: set 3; set 4; set 5; jump on; on: int 9; jump end; end: return"},
		{"(match A (B q q) (_ 9))", "int int text int text int | con 0 0; case 0 a b c d e; b: set 0; get 0; jump end; a: jump on; c: set 1; set 2; jump on; d: set 3; set 4; set 5; jump on; e: jump on; on: int 9; jump end; end: return"},
		{"(match A (E 5) (A 1) (_ 9))", "int int text int text int | con 0 0; case 0 a b c d e; e: int 5; jump end; a: int 1; jump end; b: set 0; jump on; c: set 1; set 2; jump on; d: set 3; set 4; set 5; jump on; on: int 9; jump end; end: return"},
		// All of them, in any order: no `_`.
		{"(match A (A 1) (B b 2) (C b c 3) (D b c d 4) (E 5))", "int int text int text int | con 0 0; case 0 a b c d e; a: int 1; jump end; b: set 0; int 2; jump end; c: set 1; set 2; int 3; jump end; d: set 3; set 4; set 5; int 4; jump end; e: int 5; jump end; end: return"},
		{"(match A (E 5) (C b c 3) (A 1) (D b c d 4) (B b 2))", "int text int text int int | con 0 0; case 0 a b c d e; e: int 5; jump end; c: set 0; set 1; int 3; jump end; a: int 1; jump end; d: set 2; set 3; set 4; int 4; jump end; b: set 5; int 2; jump end; end: return"},
		// A match in a match.
		{"(match A (A 1) (_ (match E (B x x) (_ 2))))", "int int text int text int int int text int text int | con 0 0; case 0 a b c d e; a: int 1; jump end; b: set 0; jump on; c: set 1; set 2; jump on; d: set 3; set 4; set 5; jump on; e: jump on; on: con 0 4; case 0 aa bb cc dd ee; " +
			"bb: set 6; get 6; jump done; aa: jump oo; cc: set 7; set 8; jump oo; dd: set 9; set 10; set 11; jump oo; ee: jump oo; oo: int 2; jump done; done: jump end; end: return"},
	} {
		wantThree(t, c[0], "| unit > int | "+c[1])
	}
	// `_` for no constructor, alone, or ahead of another one: no such program is WholeOk.
	s := sourceOf(t, threeData+"(match A (A 1) (B x 2) (_ 3))")
	w := wantMonoWell(t, s.Datas, wantWell(t, s))
	wantSomeGen(t, "the test's own match", w)
	turn := func(what string, do func(e *impl.Low)) {
		turned := copyWhole(w)
		do(&turned.Body)
		wantNoGen(t, what, turned)
	}
	turn("`_` first", func(e *impl.Low) { e.Alts[0], e.Alts[2] = e.Alts[2], e.Alts[0] })
	turn("`_` in the middle", func(e *impl.Low) { e.Alts[1], e.Alts[2] = e.Alts[2], e.Alts[1] })
	turn("`_` alone", func(e *impl.Low) { e.Alts = e.Alts[2:] })
	turn("`_` twice", func(e *impl.Low) { e.Alts = append(e.Alts, e.Alts[2]) })
	turn("no `_`", func(e *impl.Low) { e.Alts = e.Alts[:2] })
	turn("no alts", func(e *impl.Low) { e.Alts = nil })
	turn("`_` with Vars", func(e *impl.Low) { e.Alts[2].Vars = []int{99} })
	turn("one twice", func(e *impl.Low) { e.Alts[1].Con, e.Alts[1].Vars = 0, nil })
	turn("one of no constructor", func(e *impl.Low) { e.Alts[0].Con = 5 })
	turn("`_` and all", func(e *impl.Low) {
		for con, vars := range [][]int{2: {50, 51}, 3: {52, 53, 54}, 4: nil} {
			if con > 1 {
				e.Alts = slices.Insert(e.Alts, con, impl.LowAlt{Con: con, Vars: vars, Body: lowInt})
			}
		}
	})
}

// TestCapsOfWhatIsMade: just those that the code calls, whatever stands where nothing comes.
func TestCapsOfWhatIsMade(t *testing.T) {
	for text, want := range map[string][]int{
		"unit": nil, "tick": {1}, `(print "a")`: {0}, "(draw 1)": {2}, "(get 1)": {3}, "(put 1 2)": {4}, "(add tick (add tick tick))": {1}, "(put tick (draw (get 1)))": {1, 2, 3, 4},
		`(pair (put tick (draw (get 1))) (print "a"))`: {0, 1, 2, 3, 4}, `(pair (put 1 2) (print "a"))`: {0, 4}, `(fn x (print "a"))`: {0}, "(fn x (fn y (pair (get y) (fn z tick))))": {1, 3}, "(rec f x (put x (get (add x 0))) tick)": {1, 3, 4},
		"(pair (raise 1) tick)": nil, "(pair (raise tick) (draw 1))": {1}, "(if 1 (add (raise 1) tick) (get 2))": {3}, "(try (add (raise 1) tick) e (draw e))": {2}, "(fn x (pair (raise 1) tick))": nil,
		"(match Yes (Yes tick) (_ (get 1)))": {1, 3}, "(match (raise tick) (Yes (get 1)) (_ (draw 1)))": {1}, `(pair (raise (get 1)) (fn x (print "a")))`: {3},
	} {
		p := wantSomeGen(t, text, wholeOf(t, text))
		if !slices.Equal(p.Caps, want) {
			t.Errorf("%s: %v, not %v", text, p.Caps, want)
		}
		eachGrants(func(grants []int) {
			ok := !slices.ContainsFunc(want, func(kind int) bool { return !slices.Contains(grants, kind) })
			b, isProgram := impl.CodeBytes(p)
			if impl.Check(p, grants) != ok || !isProgram || impl.CheckBytes(b, grants) != ok {
				t.Errorf("%s: with %v not %v", text, grants, ok)
			}
			turned := p
			turned.Caps = grants
			if impl.Check(turned, []int{0, 1, 2, 3, 4}) != slices.Equal(grants, want) {
				t.Errorf("%s: as one with the Caps %v", text, grants)
			}
		})
	}
}

func TestGenOfWhatIsNotWhole(t *testing.T) {
	unit := impl.Low{}
	for i, w := range []impl.Whole{
		{Body: lowVar(0)}, {Body: impl.Low{Kind: -1}}, {Body: impl.Low{Kind: impl.ExCall + 1}}, {Body: impl.Low{Kind: math.MaxInt}}, {Body: impl.Low{Kind: math.MinInt}}, {Body: impl.Low{N: 1}}, {Body: impl.Low{M: 1}}, {Body: impl.Low{Con: 1}}, {Body: impl.Low{Ty: tyInt}},
		{Body: impl.Low{Fun: tyInt}}, {Body: impl.Low{Lit: []byte("a")}}, {Body: impl.Low{Kids: []impl.Low{unit}}}, {Body: impl.Low{Alts: []impl.LowAlt{{}}}}, {Body: impl.Low{Kind: impl.ExInt, N: mostWhole + 1, Ty: tyInt}}, {Body: impl.Low{Kind: impl.ExText, Lit: []byte(`"`), Ty: tyText}},
		{Body: lowPart(impl.ExOp, impl.OpLen+1, lowInt, lowInt)}, {Body: lowPart(impl.ExOp, -1, lowInt, lowInt)}, {Body: lowPart(impl.ExOp, impl.OpAdd, lowInt)}, {Body: lowPart(impl.ExOp, impl.OpAdd, lowInt, unit)}, {Body: lowPart(impl.ExCall, impl.CapPut+1)}, {Body: lowPart(impl.ExCall, -1)},
		{Body: lowPart(impl.ExFn, 1, lowVar(1))}, {Body: lowPart(impl.ExLet, 1, lowVar(1), lowInt)}, {Body: lowPart(impl.ExLet, -1, lowInt, lowInt)}, {Body: lowPart(impl.ExLet, impl.MaxNum+1, lowInt, lowInt)}, {Body: lowPart(impl.ExLet, 1, lowInt, lowPart(impl.ExLet, 1, lowInt, lowInt))},
		{Body: impl.Low{Kind: impl.ExRec, N: 1, M: 1, Fun: tyOf(impl.TyFun, tyInt, tyInt), Ty: tyInt, Kids: []impl.Low{lowInt, lowInt}}}, {Body: impl.Low{Kind: impl.ExRec, N: 1, M: 2, Fun: tyInt, Ty: tyInt, Kids: []impl.Low{lowInt, lowInt}}}, {Body: impl.Low{Kind: impl.ExRec, Ty: tyInt, Kids: []impl.Low{lowInt, lowInt}}},
		{Body: impl.Low{Kind: impl.ExCon, Ty: tyData(0)}}, {Layouts: []impl.Layout{{}}, Body: unit}, {Layouts: make([]impl.Layout, impl.MaxData+1), Body: unit}, {Layouts: []impl.Layout{{Cons: [][]impl.Ty{{tyVar(0)}}}}, Body: unit}, {Layouts: []impl.Layout{{Cons: [][]impl.Ty{{tyData(1)}}}}, Body: unit},
		{Body: lowTree(impl.MaxLow + 1)}, {Body: lowChain(2*impl.MaxDeep+1, lowRaise)}, {Body: impl.Low{Ty: endlessTy()}}, {Body: impl.Low{Kind: impl.ExRaise, Ty: endlessTy(), Kids: []impl.Low{lowInt}}}, {Body: impl.Low{Kids: make([]impl.Low, 1000000)}},
		{Body: impl.Low{Kind: impl.ExFn, Kids: []impl.Low{unit}}}, {Body: impl.Low{Kind: impl.ExFn, Ty: tyOf(impl.TyFun), Kids: []impl.Low{unit}}}, {Body: impl.Low{Kind: impl.ExFn, Ty: tyOf(impl.TyFun, tyInt, tyInt)}}, {Body: impl.Low{Kind: impl.ExMatch, N: -1, Kids: []impl.Low{unit}}}, {Body: impl.Low{Kind: impl.ExMatch, N: 9, Kids: []impl.Low{unit}}},
	} {
		if impl.WholeOk(w) {
			t.Fatalf("the test's own whole %d", i)
		}
		wantNoGen(t, fmt.Sprint("whole ", i), w)
	}
	for i, e := range rings() {
		wantNoGen(t, fmt.Sprint("ring ", i), impl.Whole{Body: e})
	}
}

// lowSum answers the sum of list, as flat as can be.
func lowSum(list []impl.Low) impl.Low {
	if len(list) == 1 {
		return list[0]
	}
	half := len(list) / 2
	return lowPart(impl.ExOp, impl.OpAdd, lowSum(list[:half]), lowSum(list[half:]))
}

func lowSums(count int, each func(i int) impl.Low) impl.Low {
	var list []impl.Low
	for i := range count {
		list = append(list, each(i))
	}
	return lowSum(list)
}

// lowFn is a function of ints, lowCall a call of one with 1.
func lowFn(n int, body impl.Low) impl.Low {
	return impl.Low{Kind: impl.ExFn, N: n, Ty: tyOf(impl.TyFun, tyInt, body.Ty), Kids: []impl.Low{body}}
}

func lowCall(f impl.Low) impl.Low {
	return impl.Low{Kind: impl.ExApp, Ty: f.Ty.Args[1], Kids: []impl.Low{f, lowInt}}
}

// lowLets binds so many numbers from first on around e.
func lowLets(first int, count int, e impl.Low) impl.Low {
	for i := range count {
		e = impl.Low{Kind: impl.ExLet, N: first + i, Ty: e.Ty, Kids: []impl.Low{lowInt, e}}
	}
	return e
}

// wantJustWithin looks for a program of what is just at a limit, and for none of what is one beyond it.
func wantJustWithin(t *testing.T, what string, within impl.Whole, beyond impl.Whole) impl.Program {
	t.Helper()
	wantWhole(t, what, within, true)
	wantWhole(t, what+", beyond", beyond, true)
	wantNoGen(t, what+", beyond", beyond)
	p := wantSomeGen(t, what, within)
	if !impl.ProgramOk(p) {
		t.Errorf("%s: not ProgramOk", what)
	}
	return p
}

func TestGenOfMaxBlocks(t *testing.T) {
	beside := func(count int) impl.Whole {
		return impl.Whole{Body: lowSums(count, func(i int) impl.Low { return lowCall(lowFn(i, lowVar(i))) })}
	}
	if p := wantJustWithin(t, "functions beside each other", beside(impl.MaxBlocks-1), beside(impl.MaxBlocks)); len(p.Blocks) != impl.MaxBlocks {
		t.Error(len(p.Blocks), "blocks")
	}
	within := func(count int) impl.Whole {
		return impl.Whole{Body: lowSums(count, func(i int) impl.Low {
			third := lowCall(lowFn(3*i+2, lowVar(3*i+1)))
			second := lowCall(lowFn(3*i+1, lowSum([]impl.Low{lowVar(3 * i), third})))
			return lowCall(lowFn(3*i, second))
		})}
	}
	// Three each, one within the other: 1 + 49 * 3 is 148, 1 + 50 * 3 is 151.
	if p := wantJustWithin(t, "functions in functions", within(49), within(50)); len(p.Blocks) != 148 {
		t.Error(len(p.Blocks), "blocks")
	}
	// Those that nothing comes to do not count.
	dead := beside(impl.MaxBlocks - 1)
	dead.Body = lowSum([]impl.Low{dead.Body, lowSum([]impl.Low{lowRaise(lowInt), lowSums(30, func(i int) impl.Low { return lowCall(lowFn(1000+i, lowInt)) })})})
	if p := wantSomeGen(t, "functions that nothing comes to", dead); len(p.Blocks) != impl.MaxBlocks {
		t.Error(len(p.Blocks), "blocks")
	}
}

func TestGenOfMaxCode(t *testing.T) {
	num := func(int) impl.Low { return lowInt }
	// Of 500 numbers the sums are 499; with InReturn these are 1000.
	sum := lowSums(500, num)
	more := lowPart(impl.ExCall, impl.CapDraw, sum)
	if p := wantJustWithin(t, "code", impl.Whole{Body: sum}, impl.Whole{Body: more}); len(p.Blocks[0].Code) != impl.MaxCode {
		t.Error(len(p.Blocks[0].Code))
	}
	if p := wantJustWithin(t, "a function's code", impl.Whole{Body: lowCall(lowFn(0, sum))}, impl.Whole{Body: lowCall(lowFn(0, more))}); len(p.Blocks[1].Code) != impl.MaxCode {
		t.Error(len(p.Blocks[1].Code))
	}
	// Without InReturn there is room for one more.
	if p := wantJustWithin(t, "code that raises", impl.Whole{Body: lowRaise(sum)}, impl.Whole{Body: lowRaise(more)}); len(p.Blocks[0].Code) != impl.MaxCode {
		t.Error(len(p.Blocks[0].Code))
	}
	// What closes a block counts where it stands.
	closing := func(count int) impl.Whole {
		f := lowFn(100, lowSums(10, func(i int) impl.Low { return lowVar(i) }))
		return impl.Whole{Body: lowLets(0, 10, lowSum([]impl.Low{lowCall(f), lowSums(count, num)}))}
	}
	// 20 for the lets; 10, close, int and call; add and return: 35; 483 numbers are 965 more.
	if p := wantJustWithin(t, "closing", closing(483), closing(484)); len(p.Blocks[0].Code) != impl.MaxCode {
		t.Error(len(p.Blocks[0].Code))
	}
	// What nothing comes to does not count: 499 numbers and their sums, int, raise.
	behind := func(count int) impl.Whole {
		return impl.Whole{Body: lowSum([]impl.Low{lowSums(count, num), lowSum([]impl.Low{lowRaise(lowInt), lowSums(200, num)})})}
	}
	if p := wantSomeGen(t, "code that nothing comes to", behind(499)); len(p.Blocks[0].Code) != 999 {
		t.Error(len(p.Blocks[0].Code))
	}
	wantNoGen(t, "code, and more that nothing comes to", behind(500))
}

func TestGenOfMaxHeldLocals(t *testing.T) {
	lets := func(count int) impl.Whole { return impl.Whole{Body: lowLets(0, count, lowInt)} }
	if p := wantJustWithin(t, "lets", lets(impl.MaxHeld), lets(impl.MaxHeld+1)); len(p.Blocks[0].Locals) != impl.MaxHeld {
		t.Error(len(p.Blocks[0].Locals))
	}
	beside := func(count int) impl.Whole {
		return impl.Whole{Body: lowSums(count, func(i int) impl.Low { return lowLets(i, 1, lowVar(i)) })}
	}
	wantJustWithin(t, "lets beside each other", beside(impl.MaxHeld), beside(impl.MaxHeld+1))
	inside := func(around int, count int) impl.Whole {
		return impl.Whole{Body: lowLets(1000, around, lowCall(lowFn(0, lowLets(1, count, lowVar(0)))))}
	}
	wantJustWithin(t, "lets in a function", inside(0, impl.MaxHeld), inside(0, impl.MaxHeld+1))
	if p := wantSomeGen(t, "each block has its own", inside(impl.MaxHeld, 10)); len(p.Blocks[0].Locals) != impl.MaxHeld || len(p.Blocks[1].Locals) != 10 {
		t.Error(sayBlocks(p))
	}
	tries := func(count int) impl.Whole {
		return impl.Whole{Body: lowSums(count, func(i int) impl.Low { return lowPart(impl.ExTry, i, lowInt, lowVar(i)) })}
	}
	wantJustWithin(t, "tries", tries(impl.MaxHeld), tries(impl.MaxHeld+1))
	recs := func(count int) impl.Whole {
		return impl.Whole{Body: lowSums(count, func(i int) impl.Low {
			return impl.Low{Kind: impl.ExRec, N: 2 * i, M: 2*i + 1, Fun: tyOf(impl.TyFun, tyInt, tyInt), Ty: tyInt, Kids: []impl.Low{lowInt, lowInt}}
		})}
	}
	wantJustWithin(t, "recs", recs(impl.MaxHeld), recs(impl.MaxHeld+1))
	// What `_` takes counts, though nobody asks for it: here three each.
	layouts := []impl.Layout{{Cons: [][]impl.Ty{nil, {tyInt, tyText, tyUnit}}}}
	wild := func(count int, more int) impl.Whole {
		return impl.Whole{Layouts: layouts, Body: lowLets(1000, more, lowSums(count, func(int) impl.Low {
			return impl.Low{Kind: impl.ExMatch, Ty: tyInt, Kids: []impl.Low{{Kind: impl.ExCon, Ty: tyData(0)}}, Alts: []impl.LowAlt{{Body: lowInt}, {Con: -1, Body: lowInt}}}
		}))}
	}
	wantJustWithin(t, "what `_` takes", wild(20, 0), wild(20, 1))
	wantJustWithin(t, "what `_` takes, and lets", wild(19, 3), wild(19, 4))
	// What nothing comes to has no locals.
	dead := lowSum([]impl.Low{lowLets(0, impl.MaxHeld, lowInt), lowSum([]impl.Low{lowRaise(lowInt), lowLets(500, 20, lowInt)})})
	if p := wantSomeGen(t, "lets that nothing comes to", impl.Whole{Body: dead}); len(p.Blocks[0].Locals) != impl.MaxHeld {
		t.Error(len(p.Blocks[0].Locals))
	}
}

func TestGenOfMaxHeldEnv(t *testing.T) {
	// 60 locals of the block around, and its argument as one more.
	closed := func(count int) impl.Whole {
		f := lowFn(200, lowSums(count, func(i int) impl.Low { return lowVar(i) }))
		return impl.Whole{Body: lowCall(lowFn(60, lowLets(0, 60, lowCall(f))))}
	}
	if p := wantJustWithin(t, "Env", closed(60), closed(61)); len(p.Blocks[2].Env) != impl.MaxHeld {
		t.Error(len(p.Blocks[2].Env))
	}
	// The function itself, and what a rec hands on.
	handed := func(count int) impl.Whole {
		sum := lowSums(count, func(i int) impl.Low { return lowVar(i) })
		self := impl.Low{Kind: impl.ExApp, Ty: tyInt, Kids: []impl.Low{{Kind: impl.ExVar, N: 300, Ty: tyOf(impl.TyFun, tyInt, tyInt)}, sum}}
		rec := impl.Low{Kind: impl.ExRec, N: 300, M: 301, Fun: tyOf(impl.TyFun, tyInt, tyInt), Ty: tyInt, Kids: []impl.Low{lowCall(lowFn(302, self)), lowInt}}
		return impl.Whole{Body: lowCall(lowFn(59, lowLets(0, 59, rec)))}
	}
	p := wantJustWithin(t, "Env with a rec", handed(59), handed(60))
	if len(p.Blocks[2].Env) != 59 || len(p.Blocks[3].Env) != impl.MaxHeld {
		t.Error(sayBlocks(p))
	}
}

// paddedTo answers w with layouts, so that what comes of it has so many bytes.
func paddedTo(t *testing.T, size int, w impl.Whole) impl.Whole {
	t.Helper()
	var flat func(leaves int) impl.Ty
	flat = func(leaves int) impl.Ty {
		if leaves == 1 {
			return tyData(0)
		}
		return tyOf(impl.TyPair, flat(leaves/2), flat(leaves-leaves/2))
	}
	wide := flat(impl.MaxSize / 2)
	fields := slices.Repeat([]impl.Ty{tyUnit}, impl.MaxData*impl.MaxCons*impl.MaxFields)
	whole := func() impl.Whole {
		padded := impl.Whole{Body: w.Body}
		for i := range impl.MaxData {
			var layout impl.Layout
			for k := range impl.MaxCons {
				at := (i*impl.MaxCons + k) * impl.MaxFields
				layout.Cons = append(layout.Cons, fields[at:at+impl.MaxFields])
			}
			padded.Layouts = append(padded.Layouts, layout)
		}
		return padded
	}
	p, ok := impl.Gen(whole())
	if !ok {
		t.Fatal("the test's own whole")
	}
	missing := size - len(rawCode(p))
	step := len(impl.TyBytes(wide)) - 1
	at := 0
	for ; missing >= step; missing -= step {
		fields[at] = wide
		at++
	}
	for ; missing > 0; at++ {
		more := min(missing, impl.MaxSize-1)
		fields[at] = fieldOf(more + 1)
		missing -= more
	}
	return whole()
}

func TestGenOfMaxBytes(t *testing.T) {
	for what, text := range map[string]string{
		"no Caps": "1", "one of the Caps": "tick", "all Caps": `(pair (put tick (draw (get 1))) (print "a"))`, "functions": "(fn x (fn y (add x (add y tick))))",
	} {
		w := wholeOf(t, text)
		p := wantJustWithin(t, what, paddedTo(t, impl.MaxBytes, w), paddedTo(t, impl.MaxBytes+1, w))
		if b, ok := impl.CodeBytes(p); !ok || len(b) != impl.MaxBytes {
			t.Errorf("%s: %v, %d bytes", what, ok, len(b))
		}
		for more := 2; more < 9; more++ {
			wantNoGen(t, fmt.Sprint(what, ", beyond by ", more), paddedTo(t, impl.MaxBytes+more, w))
		}
		wantSomeGen(t, what, paddedTo(t, impl.MaxBytes-1, w))
	}
}

// TestGenOfTypesOfTheFirstBlock: the fun from unit to the Body's type must be a type, too.
func TestGenOfTypesOfTheFirstBlock(t *testing.T) {
	raised := func(ty impl.Ty) impl.Whole {
		return impl.Whole{Body: impl.Low{Kind: impl.ExRaise, Ty: ty, Kids: []impl.Low{lowInt}}}
	}
	wantJustWithin(t, "depth", raised(refs(impl.MaxDepth-1, tyInt)), raised(refs(impl.MaxDepth, tyInt)))
	wantJustWithin(t, "size", raised(fieldOf(impl.MaxSize-2)), raised(fieldOf(impl.MaxSize-1)))
	wantNoGen(t, "MaxSize", raised(fieldOf(impl.MaxSize)))
	// Within a program they may be as deep and as great as any type.
	for _, ty := range []impl.Ty{refs(impl.MaxDepth, tyInt), fieldOf(impl.MaxSize)} {
		w := impl.Whole{Body: impl.Low{Kind: impl.ExLet, N: 0, Ty: tyInt, Kids: []impl.Low{raised(ty).Body, lowInt}}}
		wantBlocks(t, "within", w, "| unit > int | | int 1; raise")
	}
	pair := tyOf(impl.TyFun, refs(impl.MaxDepth-1, tyInt), refs(impl.MaxDepth-1, tyText))
	fn := impl.Low{Kind: impl.ExFn, N: 0, Ty: pair, Kids: []impl.Low{raised(pair.Args[1]).Body}}
	wantSomeGen(t, "a function of the deepest type", impl.Whole{Body: impl.Low{Kind: impl.ExLet, N: 1, Ty: tyInt, Kids: []impl.Low{fn, lowInt}}})
}

// TestGenAtTheLimitsOfWholes: MaxLow parts and a depth of 2 MaxDeep.
func TestGenAtTheLimitsOfWholes(t *testing.T) {
	sum := lowSum(slices.Repeat([]impl.Low{lowInt}, 250))
	var list []impl.Low
	for i := range 2 {
		list = append(list, lowCall(lowFn(i, sum)))
	}
	most := lowPart(impl.ExCall, impl.CapDraw, lowSum(append(list, lowSum(slices.Repeat([]impl.Low{lowInt}, 245)))))
	most = lowSum([]impl.Low{most, lowRaise(lowTree(impl.MaxLow - 2 - rawLowNodes(most)))})
	if rawLowNodes(most) != impl.MaxLow {
		t.Fatal("the test's own tree:", rawLowNodes(most))
	}
	wantGenAsRaw(t, impl.Whole{Body: most})
	for _, by := range []func(e impl.Low) impl.Low{
		lowRaise, func(e impl.Low) impl.Low { return lowPart(impl.ExCall, impl.CapDraw, e) }, func(e impl.Low) impl.Low { return lowPart(impl.ExOp, impl.OpAdd, lowInt, e) }, func(e impl.Low) impl.Low { return lowPart(impl.ExIf, 0, lowInt, lowInt, e) },
		func(e impl.Low) impl.Low { return lowPart(impl.ExIf, 0, e, lowInt, lowInt) }, func(e impl.Low) impl.Low { return lowPart(impl.ExOp, impl.OpAdd, e, lowInt) },
	} {
		wantGenAsRaw(t, impl.Whole{Body: lowChain(2*impl.MaxDeep, by)})
		wantNoGen(t, "one deeper", impl.Whole{Body: lowChain(2*impl.MaxDeep+1, by)})
	}
	number := 0
	tries := lowChain(2*impl.MaxDeep, func(e impl.Low) impl.Low {
		number++
		if number <= impl.MaxHeld {
			return lowPart(impl.ExTry, number, e, lowInt)
		}
		return lowPart(impl.ExOp, impl.OpAdd, lowInt, e)
	})
	if !wantGenAsRaw(t, impl.Whole{Body: tries}) {
		t.Error("tries in tries: refused")
	}
	calls := lowChain(2*impl.MaxDeep-1, func(e impl.Low) impl.Low { number++; return lowCall(lowFn(number, e)) })
	wantNoGen(t, "calls that are too deep", impl.Whole{Body: calls})
	calls = lowChain(impl.MaxDeep, func(e impl.Low) impl.Low { number++; return lowCall(lowFn(number, e)) })
	if !wantGenAsRaw(t, impl.Whole{Body: calls}) {
		t.Error("calls in calls: refused")
	}
	// As high a stack as there may be: constructors in constructors, and the longest Env on top.
	layouts := []impl.Layout{{Cons: [][]impl.Ty{{tyInt, tyInt, tyInt}}}}
	high := lowCall(lowFn(5000, lowSums(46, func(i int) impl.Low { return lowVar(i) })))
	for range 10 {
		con := impl.Low{Kind: impl.ExCon, Ty: tyData(0), Kids: []impl.Low{lowInt, lowInt, high}}
		number += 3
		high = impl.Low{Kind: impl.ExMatch, Ty: tyInt, Kids: []impl.Low{con}, Alts: []impl.LowAlt{{Vars: []int{number, number + 1, number + 2}, Body: lowVar(number)}}}
	}
	high = lowCall(lowFn(6000, lowLets(0, 28, lowCall(lowFn(7000, lowLets(28, 18, high))))))
	if !wantGenAsRaw(t, impl.Whole{Layouts: layouts, Body: high}) {
		t.Error("a high stack: refused")
	}
}

// genWholes are such as code comes of, and such as it does not come of.
func genWholes(t *testing.T) []impl.Whole {
	var list []impl.Whole
	for _, text := range slices.Concat(turnTexts, moreTexts, wellTexts) {
		w := wholeOf(t, text)
		list = append(list, w)
		for _, turn := range []func(w *impl.Whole){
			func(w *impl.Whole) { w.Body.N++ }, func(w *impl.Whole) { w.Layouts = append(w.Layouts, impl.Layout{}) }, func(w *impl.Whole) { w.Body = lowRaise(w.Body) },
			func(w *impl.Whole) { w.Body.Alts = append(w.Body.Alts, impl.LowAlt{Con: -1, Vars: []int{3, 2, 1}}) },
		} {
			turned := copyWhole(w)
			turn(&turned)
			list = append(list, turned)
		}
	}
	walk := &walk{state: 107}
	walk.wholesOf(t, 100, func(whole impl.Whole) { list = append(list, whole, walk.someRaises(whole)) })
	return append(list, impl.Whole{}, impl.Whole{Body: lowSums(impl.MaxBlocks, func(i int) impl.Low { return lowCall(lowFn(i, lowVar(i))) })})
}

// TestGenHasMemoryOfItsOwn: nothing is written into a whole program nor behind its lists, what lies there is not read,
// and no two lists of what is answered are one, nor one of the argument's.
func TestGenHasMemoryOfItsOwn(t *testing.T) {
	made := 0
	for i, w := range genWholes(t) {
		plain, plainOk := impl.Gen(w)
		arg := roomyWhole(w)
		got, ok := impl.Gen(arg)
		other, _ := impl.Gen(arg)
		if ok != plainOk || !sameProgram(got, plain) || !sameProgram(other, plain) {
			t.Errorf("whole %d: what lies behind a list was read", i)
		}
		all := newRoll()
		all.whole(arg)
		if all.spoilt || !sameWhole(arg, w) {
			t.Errorf("whole %d: the argument was changed", i)
		}
		all.program(got)
		all.program(other)
		if all.shared {
			t.Errorf("whole %d: lists that share memory", i)
		}
		kept := copyProgram(plain)
		spoilWhole(arg)
		if !sameProgram(got, kept) {
			t.Errorf("whole %d: the answer changes with the argument", i)
		}
		spoilProgram(got)
		again, okAgain := impl.Gen(w)
		if okAgain != plainOk || !sameProgram(again, kept) || !sameProgram(other, kept) {
			t.Errorf("whole %d: an answer was kept", i)
		}
		if ok {
			made++
		}
	}
	if made < 150 {
		t.Error("the test's own wholes:", made)
	}
}

// TestGenOfWholesWhosePartsShare: lists that stand in several places are copied for each.
func TestGenOfWholesWhosePartsShare(t *testing.T) {
	fun := tyOf(impl.TyFun, tyOf(impl.TyPair, tyInt, tyInt), inRef(tyInt))
	fields := []impl.Ty{fun, fun}
	cons := [][]impl.Ty{fields, fields}
	lit := []byte("lit")
	text := impl.Low{Kind: impl.ExText, Lit: lit, Ty: tyText}
	raise := []impl.Low{lowInt}
	data := impl.Low{Kind: impl.ExRaise, Ty: tyData(0), Kids: raise}
	use := func(n int) impl.Low {
		return impl.Low{Kind: impl.ExFn, N: n, Ty: tyOf(impl.TyFun, fun, tyText), Kids: []impl.Low{{Kind: impl.ExLet, N: n + 1, Ty: tyText, Kids: []impl.Low{{Kind: impl.ExVar, N: n + 2, Ty: fun}, text}}}}
	}
	body := func(n int) impl.Low {
		return impl.Low{Kind: impl.ExMatch, Ty: tyText, Kids: []impl.Low{data}, Alts: []impl.LowAlt{{Con: 0, Vars: []int{n + 2, n + 3}, Body: impl.Low{Kind: impl.ExApp, Ty: tyText, Kids: []impl.Low{use(n), {Kind: impl.ExVar, N: n + 3, Ty: fun}}}}, {Con: -1, Body: text}}}
	}
	w := impl.Whole{Layouts: []impl.Layout{{Cons: cons}, {Cons: cons}}, Body: impl.Low{Kind: impl.ExIf, Ty: tyText, Kids: []impl.Low{lowInt, body(10), body(20)}}}
	w.Body.Kids[1].Kids[0] = impl.Low{Kind: impl.ExCon, Con: 1, Ty: tyData(0), Kids: []impl.Low{{Kind: impl.ExRaise, Ty: fun, Kids: raise}, {Kind: impl.ExRaise, Ty: fun, Kids: raise}}}
	wantWhole(t, "parts that share", w, true)
	if !wantGenAsRaw(t, w) {
		t.Fatal("refused")
	}
	// The match is reached where its Kid is an argument.
	for i := range 2 {
		w.Body.Kids[i+1].Kids[0] = impl.Low{Kind: impl.ExVar, N: 5, Ty: tyData(0)}
	}
	w.Body = impl.Low{Kind: impl.ExFn, N: 5, Ty: tyOf(impl.TyFun, tyData(0), tyText), Kids: []impl.Low{w.Body}}
	if !wantGenAsRaw(t, w) {
		t.Fatal("refused")
	}
	p, _ := impl.Gen(w)
	all := newRoll()
	all.ty(fun)
	all.text(lit)
	enrol(all, fields, func(impl.Ty) bool { return true })
	enrol(all, cons, func([]impl.Ty) bool { return true })
	all.program(p)
	if all.shared || len(p.Blocks) != 4 {
		t.Error("what is made shares as what it was made of:", all.shared, sayBlocks(p))
	}
}

// TestFreeOfHasMemoryOfItsOwn: as Gen.
func TestFreeOfHasMemoryOfItsOwn(t *testing.T) {
	any := func(int) bool { return true }
	some := 0
	for i, w := range genWholes(t) {
		for place, part := range lowPlaces(&w.Body) {
			if (i+place)%4 > 0 {
				continue
			}
			plain := impl.FreeOf(*part)
			arg := roomyLow(*part)
			got, other := impl.FreeOf(arg), impl.FreeOf(arg)
			if !slices.Equal(got, plain) {
				t.Errorf("whole %d, part %d: what lies behind a list was read", i, place)
			}
			all := newRoll()
			all.low(arg)
			if all.spoilt || !sameLow(arg, *part) {
				t.Errorf("whole %d, part %d: the argument was changed", i, place)
			}
			enrol(all, got, any)
			enrol(all, other, any)
			if all.shared {
				t.Errorf("whole %d, part %d: an answer shares memory", i, place)
			}
			for k := range got {
				got[k] = spareWord
			}
			if again := impl.FreeOf(arg); !slices.Equal(again, plain) || !slices.Equal(other, plain) {
				t.Errorf("whole %d, part %d: an answer was kept", i, place)
			}
			some += min(1, len(plain))
		}
	}
	if some < 500 {
		t.Error("the test's own parts:", some)
	}
	// The Vars of one alt are the argument's, too.
	vars := withSpare([]int{3, 1, 2}, spareWord)
	e := impl.Low{Kind: impl.ExMatch, Kids: []impl.Low{lowVar(9)}, Alts: []impl.LowAlt{{Vars: vars, Body: lowVar(1)}}}
	if got := impl.FreeOf(e); !slices.Equal(got, []int{9}) || !slices.Equal(vars, []int{3, 1, 2}) {
		t.Error(got, vars)
	}
}
