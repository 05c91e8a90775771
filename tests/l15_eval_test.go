package tests

import (
	"fmt"
	"math"
	"slices"
	"strconv"
	"strings"
	"testing"

	"loop.example/g00293/impl"
)

// manyData has a constructor of each count of Fields.
const manyData = "(data many 1 (None) (One '0) (Two '0 text) (Three '0 int '0) (Last))\n"

// evalWorld has something for each kind of call.
func evalWorld() impl.World {
	return impl.World{Ticks: 6, Draws: []int{17, 5}, Store: []impl.Entry{{Key: 3, Value: 30}}}
}

func evalTrialOf(t *testing.T, body string) evalTrial {
	t.Helper()
	return evalTrial{what: body, s: behindData(t, manyData+body), w: evalWorld(), fuel: impl.MaxEval}
}

// wantEvalOnce looks how an evaluation ends: Kind, N, Text and Steps; that Heap and Moves are zero; and that the raw evaluation says so, too.
func wantEvalOnce(t *testing.T, c evalTrial, kind int, n int, text string, steps int) (impl.Outcome, bool) {
	t.Helper()
	got := wantEvalAsRaw(t, c)
	ok := got.Kind == kind && got.N == n && string(got.Text) == text && got.Steps == steps && got.Moves == 0 && isZeroHeap(got.Heap)
	if !ok {
		t.Errorf("%s: %s\nnot kind %d, n %d, %q, %d steps", c.what, sayOutcome(got), kind, n, text, steps)
	}
	return got, ok
}

// wantEvalEnd looks at the end that there is with just as much fuel, too, and at what comes of less.
func wantEvalEnd(t *testing.T, c evalTrial, kind int, n int, text string, steps int) impl.Outcome {
	t.Helper()
	got, ok := wantEvalOnce(t, c, kind, n, text, steps)
	if !ok || kind == impl.OutRefused || c.fuel == steps {
		return got
	}
	for fuel := range min(steps, 60) {
		wantFuelGone(t, c, fuel, got)
	}
	wantFuelGone(t, c, steps-1, got)
	if c.fuel = steps; kind == impl.OutDeep {
		wantFuelGone(t, c, steps, got)
		c.fuel++
	}
	if just := wantEvalAsRaw(t, c); !sameOutcome(just, got) {
		t.Errorf("%s: with just as much fuel %s\nnot %s", c.what, sayOutcome(just), sayOutcome(got))
	}
	return got
}

// wantFuelGone looks whether c, which would end as whole, ends with OutFuel behind so many steps.
func wantFuelGone(t *testing.T, c evalTrial, fuel int, whole impl.Outcome) {
	t.Helper()
	if fuel < 0 {
		return
	}
	c.fuel = fuel
	got := wantEvalAsRaw(t, c)
	if got.Kind != impl.OutFuel || got.N != 0 || len(got.Text) != 0 || got.Steps != fuel || got.Moves != 0 || !isZeroHeap(got.Heap) || !begins(got.World.Trace, whole.World.Trace) {
		t.Errorf("%s: with fuel %d %s", c.what, fuel, sayOutcome(got))
	}
}

// wantEval looks how a body behind someData and manyData ends, and that its code does what it means.
func wantEval(t *testing.T, body string, kind int, n int, text string, steps int) impl.Outcome {
	t.Helper()
	c := evalTrialOf(t, body)
	got := wantEvalEnd(t, c, kind, n, text, steps)
	if kind == impl.OutRefused {
		return got
	}
	ended := kind == impl.OutHalt || kind == impl.OutRaise
	if does := wantCodeDoes(t, c); ended && steps <= 400 && does != kind {
		t.Errorf("%s: the code ends with %d", body, does)
	}
	return got
}

// A meaning is a body, what is shown in the end, and the steps.
type meaning struct {
	body  string
	text  string
	steps int
}

func wantMeanings(t *testing.T, list []meaning) {
	t.Helper()
	for _, c := range list {
		wantEval(t, c.body, impl.OutHalt, 0, c.text, c.steps)
	}
}

func TestLimitsOfEval(t *testing.T) {
	if impl.MaxEval != 300000 || impl.MaxNest != 20000 {
		t.Error("the limits:", impl.MaxEval, impl.MaxNest)
	}
}

// TestEvalRefuses: each reason by itself, at its limit and one beyond.
func TestEvalRefuses(t *testing.T) {
	type turn struct {
		what string
		c    evalTrial
		ok   bool
	}
	whole := evalTrial{s: sourceOf(t, "(draw 5)"), w: worldOfDraws(13), fuel: 2}
	turns := []turn{{"all as it must be", whole, true}}
	for fuel, ok := range map[int]bool{-1: false, 0: true, 1: true, impl.MaxEval: true, impl.MaxEval + 1: false, math.MinInt: false, math.MaxInt: false} {
		turns = append(turns, turn{fmt.Sprint("fuel ", fuel), evalTrial{s: whole.s, w: whole.w, fuel: fuel}, ok})
	}
	for _, bad := range badWorlds() {
		turns = append(turns, turn{"the world: " + bad.name, evalTrial{s: whole.s, w: bad.world, fuel: 2}, false})
	}
	for _, good := range goodWorlds() {
		turns = append(turns, turn{"the world: " + good.name, evalTrial{s: whole.s, w: good.world, fuel: 2}, len(good.world.Trace) == 0})
	}
	turns = append(turns, turn{"two reasons", evalTrial{s: whole.s, w: worldOfTicks(-1), fuel: -1}, false}, turn{"no source, no fuel", evalTrial{s: bodyOnly(exOf(impl.ExFst))}, false}, turn{"the zero values", evalTrial{}, true})
	for _, c := range turns {
		c.c.what = c.what
		got := wantEvalAsRaw(t, c.c)
		if ok := got.Kind != impl.OutRefused; ok != c.ok || !ok && !sameOutcome(got, impl.Outcome{}) {
			t.Errorf("%s: %s", c.what, sayOutcome(got))
		}
	}
	want := impl.Outcome{Kind: impl.OutHalt, Text: []byte("3"), Steps: 2, World: impl.World{Trace: []impl.Event{{Cap: impl.CapDraw, A: 5, Res: 3}}}}
	if got := whole.eval(); !sameOutcome(got, want) {
		t.Error("the test's own source:", sayOutcome(got))
	}
}

// TestEvalRefusesSources: those that Infer tells no term of, by each code.
func TestEvalRefusesSources(t *testing.T) {
	codes := map[int]int{}
	list := typeSources(t)
	for _, text := range []string{"(add 1 \"a\")", "(if unit 1 2)", "(1 2)", "(fn x (x x))", "(raise \"a\")", "(read 1)", "(print 1)", "(try 1 e \"a\")", "(let x 1 (x 1))", "(if 1 2 \"a\")", "(let y 1 x)", "(fn x y)",
		"(match Nil (_ 1))", "(match Nil (_ 1) (Nil 2))", "(match Nil (_ 1) (Nil 2) (Cons x y 3))", "(match Nil (Nil 2) (_ 1) (Cons x y 3))", "(match Nil (Nil 1))", "(match 1 (Nil 1) (_ 2))", "(None 1)", "Some"} {
		list = append(list, behindData(t, manyData+text))
	}
	for i, s := range list {
		_, code := impl.Infer(s)
		codes[code]++
		for _, fuel := range []int{0, 1000, -1} {
			got := wantEvalAsRaw(t, evalTrial{what: fmt.Sprint("source ", i), s: s, fuel: fuel})
			if ok := got.Kind != impl.OutRefused; ok != (code == impl.TypeWell && fuel >= 0) || !ok && !sameOutcome(got, impl.Outcome{}) {
				t.Errorf("source %d: code %d, fuel %d: %s", i, code, fuel, sayOutcome(got))
			}
		}
	}
	for _, code := range []int{impl.TypeWell, impl.TypeForm, impl.TypeName, impl.TypeArms, impl.TypeClash} {
		if codes[code] < 6 {
			t.Error("the test's own sources:", codes)
		}
	}
	kids := make([]impl.Expr, 1)
	kids[0] = exOf(impl.ExFst, kids...)
	kids[0].Kids = kids
	if got := impl.Eval(bodyOnly(kids[0]), impl.World{}, 10); !sameOutcome(got, impl.Outcome{}) {
		t.Error("a tree without an end:", sayOutcome(got))
	}
}

// TestEachPart: what is shown of it, and the steps that are made.
func TestEachPart(t *testing.T) {
	wantMeanings(t, []meaning{
		{"unit", "()", 1}, {"7", "7", 1}, {"0", "0", 1}, {"1073741823", "1073741823", 1}, {"-1073741824", "-1073741824", 1}, {`"ab"`, `"ab"`, 1}, {`""`, `""`, 1},
		{"(fn x x)", "fn", 1}, {"(fn x (raise 1))", "fn", 1}, {"((fn x x) 5)", "5", 4}, {"((fn x (add x x)) 5)", "10", 6}, {"((fn x 3) unit)", "3", 4},
		{"(let x 1 x)", "1", 3}, {"(let x (add 1 2) (add x x))", "6", 7}, {"(rec f x x 7)", "7", 2}, {"(rec f x x (f 5))", "5", 5}, {"(rec f x (raise 1) f)", "fn", 2},
		{"(if 1 2 3)", "2", 3}, {"(if 0 2 3)", "3", 3}, {"(if -1 2 3)", "2", 3},
		{"(pair 1 unit)", "(1, ())", 3}, {"(fst (pair 1 2))", "1", 4}, {"(snd (pair 1 2))", "2", 4},
		{"(ref 5)", "ref(5)", 2}, {"(read (ref 5))", "5", 3}, {"(write (ref 5) 6)", "()", 4}, {"(pair (write (ref 5) 6) 1)", "((), 1)", 6},
		{"None", "#0", 1}, {"Last", "#4", 1}, {"(One 5)", "#1(5)", 2}, {`(Two 5 "a")`, `#2(5, "a")`, 3}, {"(Three unit 2 unit)", "#3((), 2, ())", 4}, {"(Cons 1 (Cons 2 Nil))", "#1(1, #1(2, #0))", 5},
		{"(match Nil (Nil 1) (Cons h r h))", "1", 3}, {"(match (Cons 4 Nil) (Nil 1) (Cons h r h))", "4", 5}, {"(match (Cons 4 Nil) (Nil 1) (_ 2))", "2", 5},
		{"(try 1 e 2)", "1", 2}, {"(try (raise 1) e e)", "1", 4}, {"(try (add (raise 1) 2) e (add e 5))", "6", 7},
		{"(add 3 5)", "8", 3}, {"(sub 3 5)", "-2", 3}, {"(mul 3 -5)", "-15", 3}, {"(less 3 5)", "1", 3}, {"(less 5 5)", "0", 3}, {"(less 5 3)", "0", 3}, {"(less -5 3)", "1", 3},
		{"(same 5 5)", "1", 3}, {"(same 5 -5)", "0", 3}, {`(cat "ab" "c")`, `"abc"`, 3}, {`(cat "" "")`, `""`, 3}, {`(len "abc")`, "3", 2}, {`(len "")`, "0", 2}, {`(len (cat "ab" "cde"))`, "5", 4},
		{`(print "hi")`, "()", 2}, {"tick", "6", 1}, {"(draw 10)", "7", 2}, {"(get 3)", "30", 2}, {"(put 3 4)", "()", 3}, {`(pair (print "") (put 1 2))`, "((), ())", 6},
	})
	wantEval(t, "(raise 5)", impl.OutRaise, 5, "", 2)
	wantEval(t, "(raise (add 5 6))", impl.OutRaise, 11, "", 4)
}

// sumOfParts is an int of just so many parts.
func sumOfParts(parts int) impl.Expr {
	switch parts {
	case 1:
		return exInt(1)
	case 2:
		return exNumbered(impl.ExOp, impl.OpLen, exText("a"))
	}
	left := (parts - 1) / 2
	return exNumbered(impl.ExOp, impl.OpAdd, sumOfParts(left), sumOfParts(parts-1-left))
}

func oneMore(e impl.Expr) impl.Expr {
	return exNumbered(impl.ExOp, impl.OpAdd, exInt(1), e)
}

// TestEvalOfSourcesAtTheirLimits: of parts, depth and bytes, and one beyond.
func TestEvalOfSourcesAtTheirLimits(t *testing.T) {
	cat, letters := exNumbered(impl.ExOp, impl.OpCat), `"`+strings.Repeat("a", impl.MaxString)+`"`
	for _, c := range []struct {
		what  string
		body  impl.Expr
		text  string
		steps int
	}{
		{"MaxNodes parts", sumOfParts(impl.MaxNodes), "128", impl.MaxNodes}, {"one part more", sumOfParts(impl.MaxNodes + 1), "", 0},
		{"as deep as can be", deep(impl.MaxDeep, exInt(1), oneMore), "40", 2*impl.MaxDeep - 1}, {"one deeper", deep(impl.MaxDeep+1, exInt(1), oneMore), "", 0},
		{"MaxProgram bytes", longBodyOf(t, impl.MaxProgram, cat), letters, 279}, {"one byte more", longBodyOf(t, impl.MaxProgram+1, cat), "", 0},
		{"the greatest number", exInt(mostWhole), "1073741823", 1}, {"one more", exInt(mostWhole + 1), "", 0}, {"the least number", exInt(leastWhole), "-1073741824", 1}, {"one less", exInt(leastWhole - 1), "", 0},
	} {
		kind := impl.OutHalt
		if c.steps == 0 {
			kind = impl.OutRefused
		}
		trial := evalTrial{what: c.what, s: bodyOnly(c.body), fuel: impl.MaxEval}
		wantEvalEnd(t, trial, kind, 0, c.text, c.steps)
		if kind == impl.OutHalt {
			wantCodeDoes(t, trial)
		}
	}
}

// nesting is the text of a body that goes down by calls, so that within stands at the nest 4 + 2 * down, behind 6 + 7 * down steps;
// within a let more it is one nest and two steps more.
func nesting(nest int, within string) (string, int) {
	down := (nest - 4) / 2
	text := fmt.Sprintf("(rec down n (if n (down (sub n 1)) %s) (down %d))", within, down)
	if nest%2 == 1 {
		return bracket("let", "q", "1", text), 8 + 7*down
	}
	return text, 6 + 7*down
}

// TestNestsOfEachPart: at which nest each Kid stands. Of a body at MaxNest - k, it is told how many steps are made in it until one
// would stand too deep, for k = 0, 1, ..; at last it ends.
func TestNestsOfEachPart(t *testing.T) {
	for _, c := range []struct {
		body  string
		steps []int
		text  string
	}{
		{"1", []int{1}, "1"}, {"unit", []int{1}, "()"}, {`"a"`, []int{1}, `"a"`}, {"n", []int{1}, "0"}, {"(fn y (add y 1))", []int{1}, "fn"}, {"tick", []int{1}, "6"}, {"None", []int{1}, "#0"},
		{"(pair 1 (pair 2 3))", []int{1, 3, 5}, "(1, (2, 3))"}, {"(pair (pair 1 2) 3)", []int{1, 2, 5}, "((1, 2), 3)"}, {"(Three 1 (add 2 3) 4)", []int{1, 3, 6}, "#3(1, 5, 4)"}, {"(One (One 1))", []int{1, 2, 3}, "#1(#1(1))"},
		{"(let y (add 1 1) y)", []int{1, 2, 5}, "2"}, {"(let y 1 (add y 1))", []int{1, 3, 5}, "2"}, {"((fn y y) 1)", []int{1, 4}, "1"}, {"((fn y (add y 1)) 1)", []int{1, 4, 6}, "2"}, {"((fn y 7) (add 1 2))", []int{1, 3, 6}, "7"},
		{"(((fn y (fn z y)) 1) 2)", []int{1, 2, 7}, "1"}, {"(rec g y (add y 1) (g 5))", []int{1, 2, 5, 7}, "6"}, {"(rec g y (add y 1) 3)", []int{1, 2}, "3"}, {"(rec g y (if y (g (sub y 1)) 9) (g 1))", []int{1, 2, 5, 7, 9, 14}, "9"},
		{"(if (add 1 0) 2 3)", []int{1, 2, 5}, "2"}, {"(if 1 (add 2 3) 4)", []int{1, 3, 5}, "5"}, {"(if 0 4 (add 2 3))", []int{1, 3, 5}, "5"}, {"(if 1 2 (add 3 (add 4 5)))", []int{1, 3}, "2"},
		{"(fst (pair 1 2))", []int{1, 2, 4}, "1"}, {"(snd (pair 1 2))", []int{1, 2, 4}, "2"}, {"(ref (ref 1))", []int{1, 2, 3}, "ref(ref(1))"}, {"(read (ref 1))", []int{1, 2, 3}, "1"}, {"(write (ref 1) (add 2 3))", []int{1, 2, 6}, "()"},
		{"(match (One 4) (One y (add y 1)) (_ 2))", []int{1, 2, 6}, "5"}, {"(match None (None (add 1 2)) (_ 2))", []int{1, 3, 5}, "3"}, {"(match None (One y 1) (_ (add 2 3)))", []int{1, 3, 5}, "5"}, {"(match None (None 1) (_ (add 2 3)))", []int{1, 3}, "1"},
		{"(try (add 1 2) e 3)", []int{1, 2, 4}, "3"}, {"(try (raise 1) e 3)", []int{1, 2, 4}, "3"}, {"(try (raise 1) e (add e 3))", []int{1, 2, 6}, "4"}, {"(try (raise 1) e (add e (add e 3)))", []int{1, 2, 6, 8}, "5"}, {"(try (raise (raise 1)) e 3)", []int{1, 2, 3, 5}, "3"}, {"(try 1 e (add 1 (add 2 3)))", []int{1, 2}, "1"},
		{"(add 1 (sub 2 3))", []int{1, 3, 5}, "0"}, {`(len (cat "a" "b"))`, []int{1, 2, 4}, "2"}, {`(print (cat "a" "b"))`, []int{1, 2, 4}, "()"}, {"(draw (add 1 2))", []int{1, 2, 4}, "2"}, {"(get (add 1 2))", []int{1, 2, 4}, "30"}, {"(put 1 (add 1 2))", []int{1, 3, 5}, "()"},
	} {
		for k, steps := range c.steps {
			body, ahead := nesting(impl.MaxNest-k, c.body)
			trial := evalTrialOf(t, body)
			if trial.what = fmt.Sprintf("%s with %d nests left", c.body, k); k < len(c.steps)-1 {
				wantEvalOnce(t, trial, impl.OutDeep, 0, "", ahead+steps)
			} else {
				wantEvalOnce(t, trial, impl.OutHalt, 0, c.text, ahead+steps)
			}
		}
	}
}

// TestNestAtItsLimit: by calls within calls, by bodies of arms, by Kids within Kids, and what ends none of them.
func TestNestAtItsLimit(t *testing.T) {
	// The call in the second Kid stands at the nest 2, that in the body at one more each time: three steps a nest.
	wantEval(t, "(rec f x (f x) (f 1))", impl.OutDeep, 0, "", 1+3*(impl.MaxNest-2)+1)
	// The match stands at 3, its arm's call at 4, the next match at 5: five steps for two nests.
	wantEval(t, "(rec f x (match None (None (f x)) (_ 1)) (f 1))", impl.OutDeep, 0, "", 4+5*(impl.MaxNest/2-2)+3)
	wantEval(t, "(rec f x (match (One x) (None 1) (One y (f y)) (_ 1)) (f 1))", impl.OutDeep, 0, "", 4+6*(impl.MaxNest/2-2)+2)
	chain := strings.Repeat("(add 1 ", 30) + "1" + strings.Repeat(")", 30)
	for left, kind := range map[int]int{29: impl.OutDeep, 30: impl.OutHalt, 31: impl.OutHalt} {
		body, ahead := nesting(impl.MaxNest-left, chain)
		steps, text := 61, "31"
		if kind == impl.OutDeep {
			steps, text = 59, ""
		}
		wantEvalEnd(t, evalTrialOf(t, body), kind, 0, text, ahead+steps)
	}
	// Of a body at MaxNest + 1 the call ahead of it is too deep by its argument's Kids: four steps less are made than ahead of it.
	body, ahead := nesting(impl.MaxNest+1, "1")
	wantEvalEnd(t, evalTrialOf(t, body), impl.OutDeep, 0, "", ahead-4)
	// Calls that are done are no nest: so many are made, one behind another, that all would not go within each other.
	wantEval(t, "(rec g y y (rec f x (if x (let u (g x) (f (sub x 1))) 7) (f 6000)))", impl.OutHalt, 0, "7", 5+12*6000+3)
	// What is evaluated at MaxNest raises through all nests, and it goes on far below.
	body, ahead = nesting(impl.MaxNest-1, "(raise 5)")
	wantEval(t, bracket("try", body, "e", "(add e 1)"), impl.OutDeep, 0, "", ahead+2)
	body, ahead = nesting(impl.MaxNest-2, "(raise 5)")
	wantEval(t, bracket("try", body, "e", "(add e 1)"), impl.OutHalt, 0, "6", ahead+1+2+3)
}

// TestFuelAheadOfNest: where both would be it is OutFuel.
func TestFuelAheadOfNest(t *testing.T) {
	body, ahead := nesting(impl.MaxNest, "(add (add 1 2) (add 3 4))")
	c := evalTrialOf(t, body)
	for fuel, kind := range map[int]int{ahead: impl.OutFuel, ahead + 1: impl.OutFuel, ahead + 2: impl.OutDeep, ahead + 3: impl.OutDeep, impl.MaxEval: impl.OutDeep} {
		c.fuel = fuel
		if got := wantEvalAsRaw(t, c); got.Kind != kind || got.Steps != min(fuel, ahead+1) {
			t.Errorf("fuel %d: %s", fuel, sayOutcome(got))
		}
	}
}

// TestMostFuel: MaxEval steps may be made, and no more.
func TestMostFuel(t *testing.T) {
	loop := func(rounds int, more string) evalTrial {
		return evalTrialOf(t, fmt.Sprintf("(rec f x (if x (f (sub x 1)) %s) (try (try (f 9990) a (f 9990)) b (f %d)))", more, rounds))
	}
	c := loop(5000, "(raise 1)")
	got := wantEvalAsRaw(t, c)
	if got.Kind != impl.OutRaise || got.Steps < 150000 {
		t.Error("the test's own loop:", sayOutcome(got))
	}
	endless := evalTrialOf(t, "(rec f x (let y (try (raise x) e e) (let u (put 0 (add 1 (get 0))) (try (f x) e e))) (f 1))")
	wantEvalAsRaw(t, endless)
	tree := evalTrialOf(t, "(rec f x (if x (add (f (sub x 1)) (f (sub x 1))) 1) (f 14))")
	rounds := 1<<14 - 1
	wantEvalEnd(t, tree, impl.OutHalt, 0, "16384", 4+13*rounds+3*(rounds+1))
	more := evalTrialOf(t, "(rec f x (if x (add (f (sub x 1)) (f (sub x 1))) 1) (f 20))")
	wantEvalEnd(t, more, impl.OutFuel, 0, "", impl.MaxEval)
}

// TestNamesThatHide: what is seen where several things have one name, and what a function sees where it stands.
func TestNamesThatHide(t *testing.T) {
	wantMeanings(t, []meaning{
		{"(let x 1 (let x (add x 1) (let x (mul x 10) x)))", "20", 11}, {"(let x 1 (add (let x 2 x) x))", "3", 7}, {"(let x 1 (pair x (let x \"a\" (pair x (let x unit x)))))", `(1, ("a", ()))`, 11},
		{"(let x 1 ((fn x (add x 1)) 5))", "6", 8}, {"(let x 1 (add ((fn x x) 5) x))", "6", 8}, {"(((fn x (fn x x)) 1) 2)", "2", 7}, {"(((fn x (fn y x)) 1) 2)", "1", 7}, {"((fn x (let x (add x 1) (add x x))) 3)", "8", 10},
		{"(let f 1 (rec f x (if x (f (sub x 1)) 7) (f 2)))", "7", 23}, {"(let x 9 (rec f x (add x 1) (add x (f 1))))", "11", 11}, {"(let x 1 (add (rec x y y (x 5)) x))", "6", 9}, {"(rec f f2 f2 (let f 3 f))", "3", 4},
		{"(let h 1 (match (Cons 2 Nil) (Nil h) (Cons h t (add h h))))", "4", 9}, {"(let h 1 (match Nil (Nil h) (Cons h t h)))", "1", 5}, {"(let h 1 (match (Cons 2 Nil) (Nil 0) (_ h)))", "1", 7}, {"(let h 1 (add (match (One 2) (One h h) (_ 0)) h))", "3", 8},
		{"(match (Cons 1 (Cons 2 Nil)) (Nil 0) (Cons h t (match t (Nil h) (Cons h t (add h 10)))))", "12", 11}, {"(match (Cons 1 (Cons 2 Nil)) (Nil 0) (Cons h t (match t (Nil h) (Cons k t (add h k)))))", "3", 11},
		{"(let e 1 (try (raise (add e 1)) e (add e 10)))", "12", 10}, {"(let e 1 (add (try (raise 5) e e) e))", "6", 8}, {"(let e 1 (try e e 5))", "1", 4}, {"(let e 1 (try (add e 1) e e))", "2", 6}, {"(try (raise 1) e (try (raise (add e 1)) e (add e 10)))", "12", 11},
		// What a function sees where it stands, not where it is called, nor what is bound behind it.
		{"(let x 1 (let f (fn y (add x y)) (let x 100 (f x))))", "101", 12}, {"(let x 1 (let f (fn y x) (let x 2 (pair (f 0) x))))", "(1, 2)", 12}, {"(let k (fn x (fn y x)) (let x 9 (let y 8 ((k 1) 2))))", "1", 13},
		{"(let y 1 (let f (fn x (add x y)) ((fn y (f y)) 10)))", "11", 13}, {"(rec f x (if x (f 0) 7) (let f2 f (rec f x 9 (f2 1))))", "7", 15}, {"(let f (fn x 1) (let g (fn x (f x)) (let f (fn x 2) (g 0))))", "1", 13},
		{"(let g (fn x (fn y (add (mul x 10) y))) (let a (g 1) (let b (g 2) (pair (a 3) (b 4)))))", "(13, 24)", 29}, {"(let f (match (One 5) (One v (fn w (add v w))) (_ (fn w w))) (let v 100 (f 1)))", "6", 13},
		{"(let f (try (raise 7) e (fn w (add e w))) (let e 100 (f 1)))", "8", 13}, {"(let apply (fn f (fn x (f x))) (let x 50 ((apply (fn y (sub x y))) 8)))", "42", 16}, {"(let x 1 (let f (fn u x) (match (One 2) (One x (add (f unit) x)) (_ 0))))", "3", 13},
	})
	for _, text := range []string{"(let x x 1)", "(fn x y)", "(rec f x x x)", "(try e e 1)", "(add (let x 1 x) x)", "(match (One 1) (One v v) (_ v))"} {
		if got := wantEvalAsRaw(t, evalTrialOf(t, text)); !sameOutcome(got, impl.Outcome{}) {
			t.Errorf("%s: %s", text, sayOutcome(got))
		}
	}
}

// TestEvalOfRec: it calls itself, is hidden by what its body binds, is used in its second Kid.
func TestEvalOfRec(t *testing.T) {
	wantMeanings(t, []meaning{
		{"(rec fac n (if (less n 1) 1 (mul n (fac (sub n 1)))) (fac 5))", "120", 4 + 5*11 + 5}, {"(rec fib n (if (less n 2) n (add (fib (sub n 1)) (fib (sub n 2)))) (fib 6))", "8", 4 + 12*15 + 13*5},
		{"(rec f x (add x 1) (f (f (f 1))))", "4", 17}, {"(rec f x (add x 1) (let g f (g 1)))", "2", 9}, {"(rec f x x (pair (f 1) (f \"a\")))", `(1, "a")`, 10}, {"(rec f x (fn y (pair x y)) ((f 1) 2))", "(1, 2)", 10}, {"(let x 3 (rec f y (add x y) (f x)))", "6", 9},
		{"(rec f x (if x (let g f (g (sub x 1))) 7) (f 2))", "7", 25}, {"(rec f x (if x ((fn f (add f 1)) 5) 9) (f 1))", "6", 12}, {"(rec f x (if x (match (One 3) (One f f) (_ 0)) 9) (f 1))", "3", 10}, {"(rec f x (try (raise x) f f) (f 4))", "4", 8},
		{"(rec f g (g 5) (f (fn x (add x 1))))", "6", 10}, {"(rec even n (if n (rec odd m (if m (even (sub m 1)) 0) (odd (sub n 1))) 1) (pair (even 4) (even 3)))", "(1, 0)", 67}, {"(rec f x (rec f y (add x y) (f 10)) (f 1))", "11", 11},
		{"(rec len2 l (match l (Nil 0) (Cons h r (add 1 (len2 r)))) (len2 (Cons 5 (Cons 6 Nil))))", "2", 25}, {"(rec f x (f x) 7)", "7", 2}, {"(rec map f (fn l (match l (Nil Nil) (Cons h r (Cons (f h) ((map f) r))))) ((map (fn x (mul x x))) (Cons 2 (Cons 3 Nil))))", "#1(4, #1(9, #0))", 44},
	})
	_, code, at := impl.Parse([]byte("(rec f f f (f 1))"))
	if got := impl.Eval(bodyOnly(exRec("f", "f", exVar("f"), exInt(1))), impl.World{}, 100); code != impl.ParseForm || at != 7 || !sameOutcome(got, impl.Outcome{}) {
		t.Error("a function that is its own argument:", code, at, sayOutcome(got))
	}
}

// TestEvalOfIf: one branch is evaluated, and no other one.
func TestEvalOfIf(t *testing.T) {
	for n, first := range map[int]bool{0: false, 1: true, -1: true, 2: true, mostWhole: true, leastWhole: true} {
		text, event := "2", impl.Event{Lit: []byte("no")}
		if first {
			text, event = "1", impl.Event{Lit: []byte("yes")}
		}
		got := wantEval(t, fmt.Sprintf(`(if %d (snd (pair (print "yes") 1)) (snd (pair (print "no") 2)))`, n), impl.OutHalt, 0, text, 7)
		if !slices.EqualFunc(got.World.Trace, []impl.Event{event}, sameEvent) {
			t.Errorf("if %d: %s", n, sayWorld(got.World))
		}
	}
	wantMeanings(t, []meaning{{"(if (sub 5 5) (raise 1) 7)", "7", 5}, {"(if (less 1 2) 7 (raise 1))", "7", 5}, {"(if (get 0) (raise 1) (if (get 3) 7 (raise 2)))", "7", 7}, {"(if 1 (if 0 1 2) 3)", "2", 5}})
	wantEval(t, "(if (raise 4) 1 2)", impl.OutRaise, 4, "", 3)
	// A number whose lowest bits alone are 0, and one of which nothing is left.
	wantEval(t, "(if (mul -1073741824 -1073741824) 1 2)", impl.OutHalt, 0, "1", 5)
	wantEval(t, "(if (mul (mul -1073741824 -1073741824) 8) 1 2)", impl.OutHalt, 0, "2", 7)
}

// TestEvalOfMatch: each constructor, by its own arm or by _; arms in any order; none, one, two and three variables.
func TestEvalOfMatch(t *testing.T) {
	arms := []string{"(None 10)", "(One a (add a 20))", "(Two a b (add a (len b)))", "(Three a b c (sub a (sub b c)))", "(Last 50)"}
	made := []string{"None", "(One 5)", `(Two 5 "abc")`, "(Three 100 20 3)", "Last"}
	texts, steps := []string{"10", "25", "8", "83", "50"}, []int{3, 6, 8, 10, 3}
	wildSteps := []int{3, 4, 5, 6, 3}
	for i, value := range made {
		wantEval(t, bracket("match", value, strings.Join(arms, " ")), impl.OutHalt, 0, texts[i], steps[i])
		back := slices.Clone(arms)
		slices.Reverse(back)
		wantEval(t, bracket("match", value, strings.Join(back, " ")), impl.OutHalt, 0, texts[i], steps[i])
		for k := range arms {
			some := slices.Delete(slices.Clone(arms), k, k+1)
			text, count := texts[i], steps[i]
			if k == i {
				text, count = "7", wildSteps[i]
			}
			wantEval(t, bracket("match", value, strings.Join(some, " "), "(_ 7)"), impl.OutHalt, 0, text, count)
			if text, count = texts[i], steps[i]; k != i {
				text, count = "7", wildSteps[i]
			}
			wantEval(t, bracket("match", value, arms[k], "(_ 7)"), impl.OutHalt, 0, text, count)
			wantEval(t, bracket("match", value, "(_ 7)", arms[k]), impl.OutRefused, 0, "", 0)
			wantEval(t, bracket("match", value, "(_ 7)", strings.Join(some, " ")), impl.OutRefused, 0, "", 0)
		}
	}
	wantMeanings(t, []meaning{
		{"(match (Three 1 2 3) (Three a b c (pair c (pair a b))) (_ (pair 0 (pair 0 0))))", "(3, (1, 2))", 10}, {"(match (Both 1 \"x\") (Both a b (pair b a)))", `("x", 1)`, 7}, {"(match Yes (No 1) (Yes 2))", "2", 3}, {"(match No (Yes 1) (_ 2))", "2", 3},
		{"(match (One (One 4)) (One a (match a (One b b) (_ 0))) (_ 1))", "4", 7}, {"(match (Two unit (cat \"a\" \"b\")) (Two a b b) (_ \"\"))", `"ab"`, 7}, {"(match (Cons 1 (Cons 2 Nil)) (Cons h t t) (_ Nil))", "#1(2, #0)", 7},
		{"(let m (One 3) (pair (match m (One a a) (_ 0)) (match m (One a (add a 1)) (_ 0))))", "(3, 4)", 12},
	})
	wantEval(t, "(match (One (raise 1)) (One a 1) (_ 2))", impl.OutRaise, 1, "", 4)
	wantEval(t, "(match (One 1) (One a (raise a)) (_ 2))", impl.OutRaise, 1, "", 5)
	wantEval(t, "(match (One 1) (None (raise 5)) (_ 2))", impl.OutHalt, 0, "2", 4)
}

// TestEvalOfRaise: which try takes it; what stands behind it makes no step.
func TestEvalOfRaise(t *testing.T) {
	wantMeanings(t, []meaning{
		{"(try (add 1 2) e (raise 9))", "3", 4}, {"(try (raise 7) e (sub e 10))", "-3", 6}, {"(try (try (raise 1) e (add e 1)) e 100)", "2", 7}, {"(try (try (raise 1) e (raise (add e 1))) e (mul e 100))", "200", 11},
		{"(try (try 1 a (raise 2)) b 3)", "1", 3}, {"(add (try (raise 1) e e) (try (raise 2) e (mul e 10)))", "21", 11}, {"(try (raise (try (raise 1) e (add e 1))) e (mul e 10))", "20", 11}, {"(try (raise (raise 3)) e e)", "3", 5},
		{"(let f (fn x (raise x)) (try (f 5) e (add e 1)))", "6", 11}, {"(rec f x (if x (add 1 (f (sub x 1))) (raise 8)) (try (f 3) e e))", "8", 37}, {"(let f (fn x (try (raise x) e (add e 1))) (pair (f 1) (f 2)))", "(2, 3)", 21},
		{"(let f (fn g (g 1)) (let h (fn x (raise 4)) (try (f h) e (add e e))))", "8", 16}, {"(let f (try (raise 5) e (fn x (add x e))) (f 1))", "6", 11}, {"(let g (try (fn x (raise 5)) e (fn x 1)) (try (g 1) e (add e 1)))", "6", 12},
		{"(match (try (raise 3) e (One e)) (One a a) (_ 0))", "3", 7}, {"(try (match None (None (raise 2)) (_ 0)) e e)", "2", 6}, {"(try 1 e (raise 2))", "1", 2},
	})
	for _, c := range []struct {
		body  string
		n     int
		steps int
	}{
		{"(raise 0)", 0, 2}, {"(raise 1073741823)", mostWhole, 2}, {"(raise -1073741824)", leastWhole, 2}, {"(try (raise 1) e (raise (add e 1)))", 2, 7}, {"(try (try (raise 1) e (raise 2)) e (raise (add e 5)))", 7, 10},
		{"(add (raise 1) (raise 2))", 1, 3}, {"(add 5 (raise 2))", 2, 4}, {"(pair (pair 1 (raise 3)) (raise 4))", 3, 5}, {"((raise 1) (raise 2))", 1, 3}, {"((fn x x) (raise 2))", 2, 4}, {"(let x (raise 1) (raise 2))", 1, 3}, {"(if (raise 1) (raise 2) (raise 3))", 1, 3},
		{"(Three (raise 1) (raise 2) (raise 3))", 1, 3}, {"(Three 0 (raise 2) (raise 3))", 2, 4}, {"(write (raise 1) (raise 2))", 1, 3}, {"(write (ref 0) (raise 2))", 2, 5}, {"(put (raise 1) (raise 2))", 1, 3}, {"(print (raise 1))", 1, 3}, {"(raise (raise 1))", 1, 3},
		{"(fst (raise 1))", 1, 3}, {"(ref (raise 1))", 1, 3}, {"(read (raise 1))", 1, 3}, {"(match (raise 1) (None 1) (_ 2))", 1, 3}, {"(rec f x x (raise 1))", 1, 3}, {"(len (raise 1))", 1, 3}, {"(cat (raise 1) (raise 2))", 1, 3}, {"(rec f x (if x (f (sub x 1)) (raise 6)) (f 3))", 6, 29},
	} {
		wantEval(t, c.body, impl.OutRaise, c.n, "", c.steps)
	}
	// Numbers at both ends, and what was done ahead of the raise stays.
	for _, n := range []int{leastWrapped, leastWrapped + 1, 0, greatestWrapped - 1, greatestWrapped} {
		c := evalTrialOf(t, "(raise (get 0))")
		c.w = worldOfEntry(0, n)
		wantEvalEnd(t, c, impl.OutRaise, n, "", 3)
		c = evalTrialOf(t, "(try (raise (get 0)) e (pair e (same e (get 0))))")
		c.w = worldOfEntry(0, n)
		wantEvalEnd(t, c, impl.OutHalt, 0, fmt.Sprintf("(%d, 1)", n), 10)
		c = evalTrialOf(t, "(try (raise 1) e (raise (get 0)))")
		c.w = worldOfEntry(0, n)
		wantEvalEnd(t, c, impl.OutRaise, n, "", 6)
	}
	got := wantEval(t, `(let c (ref 1) (pair (try (let u (write c 5) (let v (print "ahead") (fst (pair (raise 2) (print "behind"))))) e e) (read c)))`, impl.OutHalt, 0, "(2, 5)", 19)
	if !slices.EqualFunc(got.World.Trace, []impl.Event{{Lit: []byte("ahead")}}, sameEvent) {
		t.Error("what was done ahead of a raise:", sayWorld(got.World))
	}
}

// TestNoTryTakes: OutFuel and OutDeep go through each try, and nothing is evaluated behind them.
func TestNoTryTakes(t *testing.T) {
	endless := "(rec f x (f (add x 1)) (try (snd (pair (print \"in\") (f 1))) e (snd (pair (print \"taken\") e))))"
	got := wantEval(t, endless, impl.OutDeep, 0, "", 9+5*(impl.MaxNest-7)+3)
	if len(got.World.Trace) != 1 {
		t.Error("OutDeep was taken:", sayWorld(got.World))
	}
	for fuel := range 300 {
		c := evalTrialOf(t, endless)
		c.fuel = fuel
		if got := wantEvalAsRaw(t, c); got.Kind != impl.OutFuel || got.Steps != fuel || len(got.World.Trace) > 1 {
			t.Errorf("fuel %d: %s", fuel, sayOutcome(got))
		}
	}
	each := "(rec f x (try (f (add x 1)) e (snd (pair (print \"taken\") e))) (f 1))"
	if got := wantEval(t, each, impl.OutDeep, 0, "", 4+6*(impl.MaxNest/2-2)+2); len(got.World.Trace) != 0 {
		t.Error("OutDeep was taken within:", sayWorld(got.World))
	}
	// A raise was taken before: what ends it then is no raise.
	wantEval(t, "(rec f x (f x) (try (raise 1) e (try (f e) a 5)))", impl.OutDeep, 0, "", 8+3*(impl.MaxNest-5)+1)
	wantEval(t, "(rec f x (f x) (try (f (try (raise 1) e e)) a 5))", impl.OutDeep, 0, "", 8+3*(impl.MaxNest-4)+1)
}

func TestEvalOfSums(t *testing.T) {
	for _, sum := range sumsAtBothEnds() {
		c := evalTrialOf(t, bracket(sum.op, "(get 0)", "(get 1)"))
		c.what = fmt.Sprint(sum.op, " of ", sum.a, " and ", sum.b)
		c.w.Store = []impl.Entry{{Key: 0, Value: sum.a}, {Key: 1, Value: sum.b}}
		wantEvalEnd(t, c, impl.OutHalt, 0, sum.text, 5)
		wantCodeDoes(t, c)
	}
	top := "(mul (mul -1073741824 -1073741824) 4)"
	wantMeanings(t, []meaning{{top, "-4611686018427387904", 5}, {bracket("sub", top, "1"), "4611686018427387903", 7}, {bracket("add", bracket("sub", top, "1"), "1"), "-4611686018427387904", 9}, {bracket("mul", top, "2"), "0", 7}, {bracket("less", top, bracket("sub", top, "1")), "1", 13}})
}

// catOf is the text of a text of so many bytes, and how many parts it has.
func catOf(size int, letter string) (string, int) {
	part := func(n int) string { return `"` + strings.Repeat(letter, n) + `"` }
	text, steps := part(min(size, impl.MaxLit)), 1
	for size -= impl.MaxLit; size > 0; size -= impl.MaxLit {
		text, steps = bracket("cat", text, part(min(size, impl.MaxLit))), steps+2
	}
	return text, steps
}

// TestEvalOfLongTexts: MaxString together, and more; what is left out is no more of the text.
func TestEvalOfLongTexts(t *testing.T) {
	for _, c := range [][2]int{{40, 19}, {40, 20}, {40, 21}, {60, 0}, {0, 60}, {59, 1}, {60, 1}, {1, 60}, {60, 60}, {61, 2}, {80, 80}} {
		both := strings.Repeat("a", min(c[0], impl.MaxString)) + strings.Repeat("b", c[1])
		both = both[:min(impl.MaxString, len(both))]
		first, firstSteps := catOf(c[0], "a")
		second, secondSteps := catOf(c[1], "b")
		steps := firstSteps + secondSteps + 1
		wantEval(t, bracket("cat", first, second), impl.OutHalt, 0, `"`+both+`"`, steps)
		wantEval(t, bracket("len", bracket("cat", first, second)), impl.OutHalt, 0, strconv.Itoa(len(both)), steps+1)
		wantEval(t, bracket("len", bracket("cat", bracket("cat", first, second), `""`)), impl.OutHalt, 0, strconv.Itoa(len(both)), steps+3)
		got := wantEval(t, bracket("print", bracket("cat", first, second)), impl.OutHalt, 0, "()", steps+1)
		if !slices.EqualFunc(got.World.Trace, []impl.Event{{Lit: []byte(both)}}, sameEvent) {
			t.Errorf("%d and %d bytes: %s", c[0], c[1], sayWorld(got.World))
		}
	}
	// What is joined stays, though more is joined to it, twice.
	wantMeanings(t, []meaning{
		{`(let a (cat "a" "b") (let b (cat a "c") (let c (cat a "d") (pair (pair a b) c))))`, `(("ab", "abc"), "abd")`, 17}, {`(let a "ab" (pair (cat a a) a))`, `("abab", "ab")`, 7},
		{`(rec f n (if n (cat "x" (f (sub n 1))) "") (len (f 70)))`, "60", 5 + 9*70 + 3}, {`(same (len (cat "a" "")) (len (cat "" "a")))`, "1", 9},
	})
}

// TestEvalOfCells: a cell that several have is one; two that are made alike are two; one may hold itself.
func TestEvalOfCells(t *testing.T) {
	wantMeanings(t, []meaning{
		{"(let c (ref 1) (let d c (let u (write c 9) (read d))))", "9", 11}, {"(let c (ref 1) (let d c (let u (write d 9) (read c))))", "9", 11}, {"(let c (ref 1) (let p (pair c c) (let u (write (fst p) 9) p)))", "(ref(9), ref(9))", 13},
		{"(let c (ref 1) (let f (fn v (write c v)) (let u (f 9) (read c))))", "9", 14}, {"(let c (ref 1) (let f (fn v (write c v)) (let g (fn u (read c)) (let u (f 9) (g unit)))))", "9", 19}, {"(let make (fn v (ref v)) (let c (make 1) (let d (make 1) (let u (write c 9) (pair c d)))))", "(ref(9), ref(1))", 21},
		{"(let c (ref 1) (let d (ref 1) (let u (write c 9) (pair (read c) (read d)))))", "(9, 1)", 15}, {"(let c (ref 1) (let d (ref c) (let u (write (read d) 9) (read c))))", "9", 13}, {"(let c (ref 1) (let d (ref c) (let e (ref 2) (let u (write d e) (let v (write (read d) 7) (pair c e))))))", "(ref(1), ref(7))", 21},
		{"(let c (ref 1) (let x (read c) (let u (write c 9) x)))", "1", 11}, {"(let c (ref 1) (pair (read c) (pair (write c 2) (read c))))", "(1, ((), 2))", 12}, {"(let c (ref 1) (let u (write c (add (read c) 1)) (let v (write c (mul (read c) 10)) (read c))))", "20", 19},
		{"(let c (ref 1) (match (One c) (One d (let u (write d 5) (read c))) (_ 0)))", "5", 12}, {"(let c (ref 1) (add (try (let u (write c 5) (raise 2)) e e) (read c)))", "7", 14}, {"((fn c (let u (write c 8) (read c))) (ref 1))", "8", 10},
		{"(let c (ref (fn x x)) (let u (write c (fn x (add x 1))) ((read c) 4)))", "5", 14}, {"(let c (ref (fn x 0)) (let u (write c (fn n (if n (add n ((read c) (sub n 1))) 0))) ((read c) 4)))", "10", 54},
		{"(let c (ref Nil) (let u (write c (Cons 1 (read c))) (let v (write c (Cons 2 (read c))) (read c))))", "#1(2, #1(1, #0))", 19}, {"(pair (ref (pair 1 (ref \"a\"))) (ref unit))", `(ref((1, ref("a"))), ref(()))`, 8},
	})
	s := "(data node 0 (End) (Node (ref node)))\n"
	for _, c := range []meaning{
		{"c", "ref(#1(ref(#1(ref(#1(ref(#1(..))))))))", 9}, {"(read c)", "#1(ref(#1(ref(#1(ref(#1(ref(..))))))))", 10}, {"(pair 1 c)", "(1, ref(#1(ref(#1(ref(#1(ref(..))))))))", 11},
		{"(match (read c) (End 0) (Node d (match (read d) (End 1) (Node e (match (read e) (End 2) (_ 3))))))", "3", 18}, {"(match (read c) (End 0) (Node d (let v (write d End) (match (read c) (End 1) (Node e 2)))))", "1", 19},
	} {
		text := "(let c (ref End) (let u (write c (Node c)) " + c.body + "))"
		trial := evalTrial{what: text, s: sourceOf(t, s+text), w: evalWorld(), fuel: impl.MaxEval}
		wantEvalEnd(t, trial, impl.OutHalt, 0, c.text, c.steps)
		wantCodeDoes(t, trial)
	}
}

// callText is the text of a call of that kind with numbers; of a text it is printed.
func callText(call impl.Event) string {
	switch call.Cap {
	case impl.CapPrint:
		text, _ := catOf(len(call.Lit), "p")
		return bracket("print", text)
	case impl.CapTick:
		return "tick"
	case impl.CapDraw:
		return fmt.Sprintf("(draw %d)", call.A)
	case impl.CapGet:
		return fmt.Sprintf("(get %d)", call.A)
	}
	return fmt.Sprintf("(put %d %d)", call.A, call.B)
}

// wantCalled looks whether a body that makes this call, and what goes ahead of it, leaves what Foreign does, or, if that makes none,
// 0 and the world as it was.
func wantCalled(t *testing.T, c evalTrial, before impl.World, call impl.Event, steps int) {
	t.Helper()
	call.Lit = call.Lit[:min(len(call.Lit), impl.MaxString)]
	want, answer, ok := impl.Foreign(before, call.Cap, call.A, call.B, call.Lit)
	if !ok {
		want, answer = before, 0
	}
	text := strconv.Itoa(answer)
	if call.Cap == impl.CapPrint || call.Cap == impl.CapPut {
		text = "()"
	}
	got, _ := wantEvalOnce(t, c, impl.OutHalt, 0, text, steps)
	if !sameWorld(got.World, want) {
		t.Errorf("%s: %s\nnot %s", c.what, sayWorld(got.World), sayWorld(want))
	}
}

// TestEvalOfForeign: each kind, with the draws gone, the store full, ticks at their end.
func TestEvalOfForeign(t *testing.T) {
	worlds := []impl.World{
		{}, {Ticks: 5, Draws: []int{17, 4}, Store: worldOfKeys(-9, 0, 8).Store}, worldOfTicks(impl.MaxNum), worldOfDraws(0), worldOfDraws(slices.Repeat([]int{impl.MaxNum}, impl.MaxDraws)...),
		worldOfKeys(keysOf(impl.MaxStore - 1)...), worldOfKeys(keysOf(impl.MaxStore)...), worldOfEntry(8, leastWrapped), worldOfEntry(8, greatestWrapped),
	}
	var calls []impl.Event
	for _, line := range foreignLines() {
		if line.call.Cap != impl.CapPrint {
			calls = append(calls, line.call)
		}
	}
	for _, size := range []int{0, 1, 20, 21, 59, 60, 61, 80} {
		calls = append(calls, impl.Event{Lit: []byte(strings.Repeat("p", size))})
	}
	for i, w := range worlds {
		for _, call := range calls {
			c := evalTrialOf(t, callText(call))
			_, litSteps := catOf(len(call.Lit), "p")
			c.what, c.w = fmt.Sprint("world ", i, ": ", c.what), w
			wantCalled(t, c, w, call, []int{1 + litSteps, 1, 2, 2, 3}[call.Cap])
			if does := wantCodeDoes(t, c); does != impl.OutHalt {
				t.Errorf("%s: the code ends with %d", c.what, does)
			}
		}
	}
}

// TestOrderOfCalls: Kids are evaluated in their order, and each call in them when it comes to it.
func TestOrderOfCalls(t *testing.T) {
	said := func(text string, n string) string { return fmt.Sprintf(`(snd (pair (print "%s") %s))`, text, n) }
	a, b, c := said("a", "1"), said("b", "2"), said("c", "3")
	for _, line := range []struct {
		body  string
		text  string
		order string
	}{
		{bracket("pair", a, bracket("pair", b, c)), "(1, (2, 3))", "abc"}, {bracket("pair", bracket("pair", a, b), c), "((1, 2), 3)", "abc"}, {bracket("Three", a, b, c), "#3(1, 2, 3)", "abc"},
		{bracket("add", a, bracket("sub", b, c)), "0", "abc"}, {bracket("less", bracket("mul", a, b), c), "1", "abc"}, {bracket("cat", said("a", `"x"`), said("b", `"y"`)), `"xy"`, "ab"}, {bracket("put", a, b), "()", "ab"},
		{bracket("write", said("a", "(ref 1)"), b), "()", "ab"}, {bracket(said("a", "(fn x "+said("c", "x")+")"), b), "2", "abc"}, {bracket("let", "x", a, bracket("add", b, "x")), "3", "ab"}, {bracket("let", "f", bracket("fn", "x", b), bracket("add", a, "(f 1)")), "3", "ab"},
		{bracket("rec", "f", "x", bracket("if", "x", bracket("f", bracket("sub", "x", a)), b), "(f 2)"), "2", "aab"}, {bracket("if", a, b, c), "2", "ab"}, {bracket("if", said("a", "0"), b, c), "3", "ac"},
		{bracket("match", said("a", "(One 5)"), bracket("One", "x", b), bracket("_", c)), "2", "ab"}, {bracket("match", said("a", "None"), bracket("One", "x", b), bracket("_", c)), "3", "ac"},
		{bracket("try", bracket("add", a, bracket("raise", b)), "e", bracket("add", c, "e")), "5", "abc"}, {bracket("try", a, "e", b), "1", "a"}, {bracket("try", bracket("add", bracket("raise", a), b), "e", c), "3", "ac"}, {bracket("try", bracket("put", bracket("raise", a), b), "e", `(print "c")`), "()", "ac"},
		{bracket("let", "f", bracket("fn", "x", a), b), "2", "b"}, {bracket("rec", "f", "x", a, b), "2", "b"}, {bracket("fst", bracket("pair", a, b)), "1", "ab"}, {bracket("read", bracket("ref", a)), "1", "a"},
	} {
		got := wantEvalAsRaw(t, evalTrialOf(t, line.body))
		order := ""
		for _, event := range got.World.Trace {
			order += string(event.Lit)
		}
		if order != line.order {
			t.Errorf("%s: %q, not %q", line.body, order, line.order)
		}
		wantEval(t, line.body, impl.OutHalt, 0, line.text, got.Steps)
	}
	// All kinds: numbers that one call answers go into the next one.
	got := wantEval(t, `(let a tick (let u (put (draw 10) a) (pair (get 7) (pair (draw 4) (pair (draw 9) (pair tick (print (cat "a" "b"))))))))`, impl.OutHalt, 0, "(6, (1, (0, (7, ()))))", 22)
	want := impl.World{Ticks: 8, Store: []impl.Entry{{Key: 3, Value: 30}, {Key: 7, Value: 6}}, Trace: []impl.Event{
		{Cap: 1, Res: 6}, {Cap: 2, A: 10, Res: 7}, {Cap: 4, A: 7, B: 6}, {Cap: 3, A: 7, Res: 6}, {Cap: 2, A: 4, Res: 1}, {Cap: 2, A: 9}, {Cap: 1, Res: 7}, {Lit: []byte("ab")}}}
	if !sameWorld(got.World, want) {
		t.Error("all kinds:", sayWorld(got.World))
	}
}

// ticksOf are so many ticks, added up.
func ticksOf(count int) string {
	if count == 1 {
		return "tick"
	}
	return bracket("add", ticksOf(count/2), ticksOf(count-count/2))
}

// TestEvalOfFullTraces: the last event there may be is one; behind it a call answers 0, and the world stays as it is.
func TestEvalOfFullTraces(t *testing.T) {
	start := impl.World{Ticks: 3, Draws: []int{5, 6}, Store: worldOfKeys(3).Store}
	for _, call := range []impl.Event{{Lit: []byte("pp")}, {Cap: impl.CapTick}, {Cap: impl.CapDraw, A: 1000}, {Cap: impl.CapGet, A: 3}, {Cap: impl.CapPut, A: 3, B: 4}, {Cap: impl.CapPut, A: 1, B: 4}} {
		for _, last := range []int{49, 50, 57} {
			c := evalTrialOf(t, fmt.Sprintf("(rec f n (if n (let u %s (f (sub n 1))) (let v %s %s)) (f 399))", ticksOf(50), ticksOf(last), callText(call)))
			before := start
			for i := range min(399*50+last, impl.MaxTrace) {
				before.Trace = append(before.Trace, impl.Event{Cap: impl.CapTick, Res: 3 + i})
			}
			before.Ticks += len(before.Trace)
			c.what, c.w = fmt.Sprintf("%s behind %d ticks", callText(call), 399*50+last), start
			wantCalled(t, c, before, call, 4+399*(3+99+5)+3+2*last-1+[]int{2, 1, 2, 2, 3}[call.Cap])
		}
	}
}

// TestCodeWithoutRoom: what is meant needs more than MaxHalf words; its code ends with OutMemory, or does the same.
func TestCodeWithoutRoom(t *testing.T) {
	long, longSteps := catOf(impl.MaxString, "a")
	more := func(count int) string {
		return strings.Repeat("(Cons (cat t t) ", count) + "(f (sub n 1))" + strings.Repeat(")", count)
	}
	for _, c := range []struct {
		rounds int
		kind   int
	}{{1, impl.OutHalt}, {8, impl.OutHalt}, {11, impl.OutMemory}} {
		body := fmt.Sprintf(`(let t %s (let u (print "ahead") (rec f n (if n %s Nil) (match (f %d) (Nil "none") (Cons h r (let w (print "behind") h))))))`, long, more(6), c.rounds)
		trial := evalTrialOf(t, body)
		steps := 1 + longSteps + 3 + 1 + 1 + 3 + c.rounds*(2+6*4+5) + 3 + 4
		got := wantEvalEnd(t, trial, impl.OutHalt, 0, `"`+strings.Repeat("a", impl.MaxString)+`"`, steps)
		if does := wantCodeDoes(t, trial); does != c.kind || steps > 400 || len(got.World.Trace) != 2 {
			t.Errorf("%d rounds: the code ends with %d: %s", c.rounds, does, sayOutcome(got))
		}
	}
	// As many calls within calls as there can be.
	wantEval(t, "(rec f n (if n (f (sub n 1)) 5) (f 56))", impl.OutHalt, 0, "5", 4+56*7+3)
	wantEval(t, "(rec f n (if n (f (sub n 1)) (raise 5)) (f 56))", impl.OutRaise, 5, "", 4+56*7+4)
	wantEval(t, "(rec f n (if n (f (sub n 1)) (raise n)) (f 56))", impl.OutRaise, 0, "", 4+56*7+4)
}
