package tests

import (
	"fmt"
	"slices"
	"strconv"
	"strings"
	"testing"

	"loop.example/g00293/impl"
)

func (c trial) free() impl.Outcome {
	return impl.RunFree(c.p, c.grants, c.w, c.fuel)
}

// rawFree tells what RunFree must, by another way: with places in a heap that has no end.
func rawFree(p impl.Program, grants []int, w impl.World, fuel int) impl.Outcome {
	if !rawWorldOk(w) || len(w.Trace) != 0 || fuel < 0 || fuel > 60000 || !impl.Check(p, grants) {
		return impl.Outcome{}
	}
	m := &rawMachine{p: p, scene: rawSceneOf(w), endless: true, h: impl.Heap{Words: []int{0}, Next: 1}}
	got := m.run(fuel, nil)
	got.Heap = impl.Heap{}
	return got
}

// begins says whether a trace is a beginning of another one.
func begins(trace []impl.Event, whole []impl.Event) bool {
	return len(trace) <= len(whole) && slices.EqualFunc(trace, whole[:len(trace)], sameEvent)
}

// wantFreeAsRun holds RunFree against what Run came to. Where that had no room, its trace is a beginning.
func wantFreeAsRun(t *testing.T, c trial, run impl.Outcome) {
	t.Helper()
	free := c.free()
	ok := sameButHeap(free, run)
	switch run.Kind {
	case impl.OutRefused:
		ok = ok || c.half < impl.MinHalf || c.half > impl.MaxHalf || len(c.force) > 1000
	case impl.OutMemory:
		ok = begins(run.World.Trace, free.World.Trace) && run.Steps <= free.Steps
	}
	if !ok || free.Moves != 0 || !isZeroHeap(free.Heap) {
		t.Fatalf("%s: half %d, fuel %d: without a heap %s\nwith one %s\n%s", c.what, c.half, c.fuel, sayOutcome(free), sayOutcome(run), sayBlocks(c.p))
	}
}

// wantFreeAsRaw holds RunFree against the raw machine, and answers what comes.
func wantFreeAsRaw(t *testing.T, c trial) impl.Outcome {
	t.Helper()
	got, want := c.free(), rawFree(c.p, c.grants, c.w, c.fuel)
	if !sameOutcome(got, want) {
		t.Fatalf("%s: grants %v, fuel %d:\n%s\nnot %s\n%s", c.what, c.grants, c.fuel, sayOutcome(got), sayOutcome(want), sayBlocks(c.p))
	}
	return got
}

// wantFreeEnd looks how a run without a heap ends: Kind, N, Text and Steps; that Heap and Moves are zero; and that the raw machine
// and Run say so, too.
func wantFreeEnd(t *testing.T, c trial, kind int, n int, text string, steps int) impl.Outcome {
	t.Helper()
	got := wantFreeAsRaw(t, c)
	if got.Kind != kind || got.N != n || string(got.Text) != text || got.Steps != steps || got.Moves != 0 || !isZeroHeap(got.Heap) {
		t.Errorf("%s: %s\nnot kind %d, n %d, %q, %d steps", c.what, sayOutcome(got), kind, n, text, steps)
	}
	wantFreeAsRun(t, c, c.run())
	return got
}

// wantFreeShown runs code without a heap that goes on from the first instruction to the last.
func wantFreeShown(t *testing.T, what string, text string, blocks ...impl.Block) {
	t.Helper()
	c := plainTrial(what, running(blocks...))
	wantFreeEnd(t, c, impl.OutHalt, 0, text, c.run().Steps)
}

func TestFreeRefuses(t *testing.T) {
	for _, turn := range beginTurns() {
		c := turn.turned()
		got := wantFreeAsRaw(t, c)
		if ok := got.Kind != impl.OutRefused; ok != turn.ok || !ok && !sameOutcome(got, impl.Outcome{}) {
			t.Errorf("%s: %s", c.what, sayOutcome(got))
		}
	}
	got := impl.RunFree(drawing5(), allCaps, worldOfDraws(13), 3)
	want := impl.Outcome{Kind: impl.OutHalt, Text: []byte("3"), Steps: 3, World: impl.World{Trace: []impl.Event{{Cap: impl.CapDraw, A: 5, Res: 3}}}}
	if !sameOutcome(got, want) {
		t.Error("the test's own program:", sayOutcome(got))
	}
}

// TestFreeInstructions: what is shown in the end.
func TestFreeInstructions(t *testing.T) {
	pair := func(a impl.Ty, b impl.Ty) impl.Ty { return tyOf(impl.TyPair, a, b) }
	adder := funBlock(tyInt, tyInt, "env 1; len; env 0; add; arg; sub; return", tyInt, tyText)
	for _, c := range []struct {
		res  impl.Ty
		code string
		text string
	}{
		{tyUnit, "unit", "()"}, {tyInt, "int -7", "-7"}, {tyInt, "int 0", "0"}, {tyText, "lit", `""`}, {tyText, "lit a b", `"a b"`}, {tyUnit, "arg", "()"},
		{tyOf(impl.TyFun, tyUnit, tyInt), "close 2", "fn"}, {tyInt, "close 2; arg; call", "4"}, {tyInt, "int 100; lit abc; close 1; int 40; call", "63"},
		{tyInt, "int 5; set 0; int 3; set 1; get 0; get 1; sub", "2"}, {tyInt, "int 5; set 0; int 3; set 0; get 0", "3"},
		{tyInt, "int 3; int 5; add", "8"}, {tyInt, "int 3; int 5; sub", "-2"}, {tyInt, "int 3; int -5; mul", "-15"},
		{tyInt, "int 3; int 5; less", "1"}, {tyInt, "int 5; int 5; less", "0"}, {tyInt, "int 5; int 3; less", "0"}, {tyInt, "int -5; int 3; less", "1"},
		{tyInt, "int 5; int 5; same", "1"}, {tyInt, "int 5; int -5; same", "0"},
		{tyText, "lit ab; lit c; cat", `"abc"`}, {tyText, "lit; lit; cat", `""`}, {tyInt, "lit; len", "0"}, {tyInt, "lit abc; len", "3"}, {tyInt, "lit ab; lit cde; cat; len", "5"},
		{pair(tyInt, tyText), `int 1; lit x; pair`, `(1, "x")`}, {tyInt, "int 1; int 2; pair; fst", "1"}, {tyInt, "int 1; int 2; pair; snd", "2"}, {tyInt, "int 1; int 2; int 3; pair; pair; snd; fst", "2"},
		{inRef(tyInt), "int 5; ref", "ref(5)"}, {tyInt, "int 5; ref; read", "5"}, {tyUnit, "int 5; ref; int 8; write", "()"}, {pair(tyUnit, tyInt), "int 5; ref; int 8; write; int 3; pair", "((), 3)"},
		{tyData(0), "con 0 0", "#0"}, {tyData(0), "int 5; con 0 1", "#1(5)"}, {tyData(0), "lit a; int 5; con 0 2", `#2("a", 5)`}, {tyData(0), "int 5; unit; lit a; con 0 3", `#3(5, (), "a")`},
		{tyInt, "int 1; if 4; int 5; jump 5; int 6", "5"}, {tyInt, "int 0; if 4; int 5; jump 5; int 6", "6"}, {tyInt, "int -1; if 4; int 5; jump 5; int 6", "5"},
		{tyInt, "try 4; int 4; done; jump 4", "4"}, {tyInt, "try 3; int 4; raise; int 1; add", "5"},
		{tyInt, "foreign 1", "6"}, {tyInt, "int 10; foreign 2", "7"}, {tyInt, "int 3; foreign 3", "30"}, {tyUnit, "int 3; int 4; foreign 4", "()"}, {tyUnit, "lit hi; foreign 0", "()"},
		{pair(tyUnit, tyUnit), "lit hi; foreign 0; int 1; int 2; foreign 4; pair", "((), ())"},
	} {
		trial := plainTrial(c.code, running(bodyOf(c.res, c.code+"; return", tyInt, tyInt), adder, funBlock(tyUnit, tyInt, "int 4; return")))
		trial.w = impl.World{Ticks: 6, Draws: []int{17, 5}, Store: []impl.Entry{{Key: 3, Value: 30}}}
		got := wantFreeEnd(t, trial, impl.OutHalt, 0, c.text, trial.run().Steps)
		if foreign := strings.Count(c.code, "foreign"); len(got.World.Trace) != foreign {
			t.Errorf("%s: %s", c.code, sayWorld(got.World))
		}
	}
}

// A sum is what an op makes of two numbers.
type sum struct {
	op   string
	a    int
	b    int
	text string
}

// sumsAtBothEnds: of 63 bits.
func sumsAtBothEnds() []sum {
	return []sum{
		{"add", greatestWrapped, 0, "4611686018427387903"}, {"add", greatestWrapped, 1, "-4611686018427387904"}, {"add", greatestWrapped, greatestWrapped, "-2"},
		{"add", leastWrapped, -1, "4611686018427387903"}, {"add", leastWrapped, leastWrapped, "0"}, {"add", leastWrapped, greatestWrapped, "-1"},
		{"sub", leastWrapped, 0, "-4611686018427387904"}, {"sub", leastWrapped, 1, "4611686018427387903"}, {"sub", greatestWrapped, -1, "-4611686018427387904"},
		{"sub", 0, leastWrapped, "-4611686018427387904"}, {"sub", greatestWrapped, leastWrapped, "-1"}, {"sub", leastWrapped, leastWrapped, "0"},
		{"mul", 1 << 31, 1 << 30, "2305843009213693952"}, {"mul", 1 << 31, 1 << 31, "-4611686018427387904"}, {"mul", 1 << 32, 1 << 31, "0"}, {"mul", 3037000500, 3037000500, "145474192"},
		{"mul", leastWrapped, -1, "-4611686018427387904"}, {"mul", greatestWrapped, greatestWrapped, "1"}, {"mul", leastWrapped, greatestWrapped, "-4611686018427387904"},
		{"less", leastWrapped, greatestWrapped, "1"}, {"less", greatestWrapped, leastWrapped, "0"}, {"less", leastWrapped, leastWrapped + 1, "1"}, {"less", greatestWrapped, greatestWrapped, "0"},
		{"same", leastWrapped, greatestWrapped, "0"}, {"same", leastWrapped, leastWrapped, "1"}, {"same", greatestWrapped, greatestWrapped - 1, "0"},
	}
}

func TestFreeSums(t *testing.T) {
	for _, c := range sumsAtBothEnds() {
		trial := plainTrial(fmt.Sprint(c.op, " of ", c.a, " and ", c.b), running(bodyOf(tyInt, "int 0; foreign 3; int 1; foreign 3; "+c.op+"; return")))
		trial.w.Store = []impl.Entry{{Key: 0, Value: c.a}, {Key: 1, Value: c.b}}
		wantFreeEnd(t, trial, impl.OutHalt, 0, c.text, 6)
	}
}

// TestFreeLongTexts: MaxString together, and more; what is left out is no more of the text.
func TestFreeLongTexts(t *testing.T) {
	for _, c := range [][2]int{{40, 19}, {40, 20}, {40, 21}, {60, 0}, {0, 60}, {59, 1}, {60, 1}, {1, 60}, {60, 60}} {
		both := strings.Repeat("a", c[0]) + strings.Repeat("b", c[1])
		both = both[:min(60, len(both))]
		made := litsOf(c[0], "a") + litsOf(c[1], "b") + "cat; "
		what := fmt.Sprint(c[0], " and ", c[1], " bytes")
		wantFreeShown(t, what, `"`+both+`"`, bodyOf(tyText, made+"return"))
		wantFreeShown(t, what+", how many", strconv.Itoa(len(both)), bodyOf(tyInt, made+"len; return"))
		trial := plainTrial(what+", printed", running(bodyOf(tyUnit, made+"foreign 0; return")))
		got := wantFreeEnd(t, trial, impl.OutHalt, 0, "()", len(trial.p.Blocks[0].Code))
		if !slices.EqualFunc(got.World.Trace, []impl.Event{{Lit: []byte(both)}}, sameEvent) {
			t.Errorf("%s: %s", trial.what, sayWorld(got.World))
		}
	}
	// What is joined stays, though more is joined to it, twice.
	wantFreeShown(t, "a text that is joined twice", `(("ab", "abc"), "abd")`, bodyOf(tyOf(impl.TyPair, tyOf(impl.TyPair, tyText, tyText), tyText),
		"lit a; lit b; cat; set 0; get 0; lit c; cat; set 1; get 0; lit d; cat; set 2; get 0; get 1; pair; get 2; pair; return", tyText, tyText, tyText))
}

// TestFreeCells: a cell that several have is one; two that are made alike are two.
func TestFreeCells(t *testing.T) {
	cell, pair := inRef(tyInt), tyOf(impl.TyPair, inRef(tyInt), inRef(tyInt))
	setter := funBlock(tyInt, tyUnit, "env 0; arg; write; return", cell)
	maker := funBlock(tyInt, cell, "arg; ref; return")
	for _, c := range []struct {
		what   string
		res    impl.Ty
		code   string
		text   string
		locals []impl.Ty
	}{
		{"in two locals", tyInt, "int 1; ref; set 0; get 0; set 1; get 0; int 9; write; set 2; get 1; read", "9", []impl.Ty{cell, cell, tyUnit}},
		{"twice in a pair", pair, "int 1; ref; set 0; get 0; get 0; pair; set 1; get 1; fst; int 9; write; set 2; get 1", "(ref(9), ref(9))", []impl.Ty{cell, pair, tyUnit}},
		{"in two pairs", tyInt, "int 1; ref; set 0; get 0; get 0; pair; get 0; get 0; pair; snd; int 9; write; set 1; fst; read", "9", []impl.Ty{cell, tyUnit}},
		{"in a function", tyInt, "int 1; ref; set 0; get 0; close 1; int 9; call; set 1; get 0; read", "9", []impl.Ty{cell, tyUnit}},
		{"in two functions", tyInt, "int 1; ref; set 0; get 0; close 1; int 8; call; set 1; get 0; close 1; int 9; call; set 1; get 0; read", "9", []impl.Ty{cell, tyUnit}},
		{"in another cell", tyInt, "int 1; ref; set 0; get 0; ref; read; int 9; write; set 1; get 0; read", "9", []impl.Ty{cell, tyUnit}},
		{"on the stack", tyInt, "int 1; ref; set 0; get 0; get 0; int 9; write; set 1; read", "9", []impl.Ty{cell, tyUnit}},
		{"two of one function", pair, "close 2; int 1; call; set 0; close 2; int 1; call; set 1; get 0; int 9; write; set 2; get 0; get 1; pair", "(ref(9), ref(1))", []impl.Ty{cell, cell, tyUnit}},
		{"two of one value", pair, "int 1; set 3; get 3; ref; set 0; get 3; ref; set 1; get 0; int 9; write; set 2; get 0; get 1; pair", "(ref(9), ref(1))", []impl.Ty{cell, cell, tyUnit, tyInt}},
		{"what was read ahead stays", tyInt, "int 1; ref; set 0; get 0; read; get 0; int 9; write; set 1", "1", []impl.Ty{cell, tyUnit}},
		{"what was written last", tyInt, "int 1; ref; set 0; get 0; int 8; write; set 1; get 0; int 9; write; set 1; get 0; read", "9", []impl.Ty{cell, tyUnit}},
		{"written ahead of a raise", tyInt, "int 1; ref; set 0; try out; get 0; int 9; write; set 1; int 5; raise; out: get 0; read; sub", "-4", []impl.Ty{cell, tyUnit}},
	} {
		wantFreeShown(t, c.what, c.text, bodyOf(c.res, c.code+"; return", c.locals...), setter, maker)
	}
	pairs := inRef(tyOf(impl.TyPair, tyInt, tyText))
	wantFreeShown(t, "a pair that is written", `((9, "b"), (1, "a"))`, bodyOf(tyOf(impl.TyPair, pairs.Args[0], pairs.Args[0]),
		"int 1; lit a; pair; set 0; get 0; ref; set 1; get 1; int 9; lit b; pair; write; set 2; get 1; read; get 0; pair; return", pairs.Args[0], pairs, tyUnit))
	wantFreeShown(t, "a cell in a data", "#1(9, #0)", bodyOf(tyData(1),
		"con 1 0; ref; set 0; get 0; int 9; get 0; read; con 1 1; write; set 1; get 0; read; return", inRef(tyData(1)), tyUnit))
}

// TestFreeRounds: a cell that holds itself, in a data or in a function.
func TestFreeRounds(t *testing.T) {
	round := "con 0 0; ref; set 0; get 0; get 0; con 0 1; write; set 1; "
	locals := []impl.Ty{inRef(tyData(0)), tyUnit, tyInt}
	for _, c := range []struct {
		what string
		res  impl.Ty
		code string
		text string
	}{
		{"shown", inRef(tyData(0)), "get 0", "ref(#1(ref(#1(ref(#1(ref(#1(..))))))))"},
		{"shown from the data on", tyData(0), "get 0; read", "#1(ref(#1(ref(#1(ref(#1(ref(..))))))))"},
		{"gone round twice", tyInt, "get 0; read; case 0 none some; none: int 0; return; some: read; case 0 one two; one: int 1; return; two: read; case 0 three four; three: int 2; return; four: set 0; int 3", "3"},
		{"cut where it is gone round", tyInt, "get 0; read; case 0 none some; none: int 0; return; some: con 0 0; write; set 1; get 0; read; case 0 one two; one: int 1; return; two: set 0; int 2", "1"},
	} {
		p := running(bodyOf(c.res, round+c.code+"; return", locals...))
		p.Layouts = []impl.Layout{{Cons: [][]impl.Ty{nil, {inRef(tyData(0))}}}}
		trial := plainTrial(c.what, p)
		wantFreeEnd(t, trial, impl.OutHalt, 0, c.text, trial.run().Steps)
	}
	// A function finds itself in the cell that it was closed over, and counts down from 5.
	fun := tyOf(impl.TyFun, tyInt, tyInt)
	down := funBlock(tyInt, tyInt, "arg; if out; env 0; read; arg; int 1; sub; call; int 10; add; return; out: int 7; return", inRef(fun))
	wantFreeShown(t, "a function in its own cell", "57", bodyOf(tyInt, "close 1; ref; set 0; get 0; get 0; close 2; write; set 1; get 0; read; int 5; call; return", inRef(fun), tyUnit),
		funBlock(tyInt, tyInt, "arg; return"), down)
}

// TestFreeCase: the Fields are pushed from the first on; then it goes on at the constructor's place.
func TestFreeCase(t *testing.T) {
	code := "case 0 none one two three; none: int 7; return; one: int 1; add; return; two: set 0; len; get 0; sub; return; three: set 1; set 2; get 1; len; sub; return"
	for _, c := range []struct {
		made  string
		text  string
		steps int
	}{
		{"con 0 0; ", "7", 4}, {"int 5; con 0 1; ", "6", 6}, {"lit ab; int 7; con 0 2; ", "-5", 9}, {"int 9; unit; lit abc; con 0 3; ", "6", 11},
	} {
		trial := plainTrial(c.made, running(bodyOf(tyInt, c.made+code, tyInt, tyText, tyUnit)))
		wantFreeEnd(t, trial, impl.OutHalt, 0, c.text, c.steps)
	}
	// What is below the data stays; a data that is taken apart twice is the same still.
	below := "int 100; int 3; con 0 1; case 0 none one two three; none: return; one: sub; return; two: set 0; set 1; return; three: set 1; set 2; set 0; return"
	wantFreeShown(t, "what is below", "97", bodyOf(tyInt, below, tyInt, tyText, tyUnit))
	taken := funBlock(tyData(0), tyInt, "arg; "+code)
	taken.Locals = []impl.Ty{tyInt, tyText, tyUnit}
	wantFreeShown(t, "taken apart twice", "(-5, -5)", bodyOf(tyOf(impl.TyPair, tyInt, tyInt), "lit ab; int 7; con 0 2; set 0; close 1; get 0; call; close 1; get 0; call; pair; return", tyData(0)), taken)
}

// TestFreeFrames: the frame of block 0 is one of MaxFrames.
func TestFreeFrames(t *testing.T) {
	for _, c := range []struct {
		down  int
		kind  int
		text  string
		steps int
	}{
		{0, impl.OutHalt, "5", 8}, {impl.MaxFrames - 3, impl.OutHalt, "5", 8 + 8*297}, {impl.MaxFrames - 2, impl.OutHalt, "5", 8 + 8*298},
		{impl.MaxFrames - 1, impl.OutDeep, "", 3 + 7*299}, {impl.MaxFrames, impl.OutDeep, "", 3 + 7*299},
	} {
		p := running(bodyOf(tyInt, fmt.Sprint("close 1; int ", c.down, "; call; return")), goingDown())
		wantFreeEnd(t, plainTrial(fmt.Sprint("down ", c.down), p), c.kind, 0, c.text, c.steps)
	}
	// Frames that a raise went through are gone.
	raising := funBlock(tyInt, tyInt, "arg; if out; self; arg; int 1; sub; call; return; out: int 5; raise")
	p := running(bodyOf(tyInt, "try a; close 1; int 298; call; done; a: set 0; try b; close 1; int 298; call; done; b: get 0; add; return", tyInt), raising)
	wantFreeEnd(t, plainTrial("raised through all frames, twice", p), impl.OutHalt, 0, "10", 2*(4+7*298+4)+4)
	// Each frame has its own argument, locals and stack.
	own := funBlock(tyInt, tyInt, "arg; set 0; int 1000; arg; if out; self; arg; int 1; sub; call; add; get 0; add; arg; add; return; out: return")
	own.Locals = []impl.Ty{tyInt}
	wantFreeShown(t, "what each frame has", "4012", bodyOf(tyInt, "close 1; int 3; call; return"), own)
}

func TestFreeRaise(t *testing.T) {
	for _, r := range raisings() {
		wantFreeEnd(t, r.trial(), r.kind, r.n, r.text, r.steps)
	}
}

// TestFreeForeign: each kind, with the draws gone, the store full, ticks at their end.
func TestFreeForeign(t *testing.T) {
	worlds := []impl.World{
		{}, {Ticks: 5, Draws: []int{17, 4}, Store: worldOfKeys(-9, 0, 8).Store}, worldOfTicks(impl.MaxNum), worldOfDraws(0),
		worldOfKeys(keysOf(impl.MaxStore - 1)...), worldOfKeys(keysOf(impl.MaxStore)...), worldOfEntry(8, leastWrapped), worldOfEntry(8, greatestWrapped),
	}
	for i, w := range worlds {
		for _, line := range foreignLines() {
			want, answer, _ := impl.Foreign(w, line.call.Cap, line.call.A, line.call.B, line.call.Lit)
			res, text := tyInt, strconv.Itoa(answer)
			if line.call.Cap == impl.CapPrint || line.call.Cap == impl.CapPut {
				res, text = tyUnit, "()"
			}
			c := plainTrial(fmt.Sprint("world ", i, ": ", line.code), running(bodyOf(res, line.code+"; return")))
			c.w = w
			got := wantFreeEnd(t, c, impl.OutHalt, 0, text, len(c.p.Blocks[0].Code))
			if !sameWorld(got.World, want) {
				t.Errorf("%s: %s\nnot %s", c.what, sayWorld(got.World), sayWorld(want))
			}
		}
	}
	// Draws go one by one, until there are none; what was put is got.
	c := plainTrial("draws that end", running(bodyOf(tyInt, "int 9; foreign 2; int 9; foreign 2; int 9; foreign 2; add; mul; set 0; int 1; get 0; foreign 4; set 1; int 1; foreign 3; return", tyInt, tyUnit)))
	c.w = worldOfDraws(14, 16)
	got := wantFreeEnd(t, c, impl.OutHalt, 0, "35", 16)
	want := impl.World{Store: []impl.Entry{{Key: 1, Value: 35}}, Trace: []impl.Event{{Cap: 2, A: 9, Res: 5}, {Cap: 2, A: 9, Res: 7}, {Cap: 2, A: 9}, {Cap: 4, A: 1, B: 35}, {Cap: 3, A: 1, Res: 35}}}
	if !sameWorld(got.World, want) {
		t.Error("draws that end:", sayWorld(got.World))
	}
}

// TestFreeTraceAtItsLimit: behind MaxTrace events a call answers 0, and the world stays.
func TestFreeTraceAtItsLimit(t *testing.T) {
	for ticks, text := range map[int]string{impl.MaxTrace - 1: "19999", impl.MaxTrace: "0", impl.MaxTrace + 5: "0"} {
		c := plainTrial(fmt.Sprint(ticks, " ticks"), tickingProgram(ticks, tyInt, "foreign 1; return"))
		got := wantFreeEnd(t, c, impl.OutHalt, 0, text, 98*408+404+len(c.p.Blocks[0].Code))
		if len(got.World.Trace) != impl.MaxTrace || got.World.Ticks != impl.MaxTrace {
			t.Errorf("%s: %d events, %d ticks", c.what, len(got.World.Trace), got.World.Ticks)
		}
	}
}

// TestFreeEndings: Heap and Moves are zero at each end; there is always room.
func TestFreeEndings(t *testing.T) {
	kinds := map[int]int{}
	for i, c := range endings() {
		run := c.run()
		if run.Kind != impl.OutMemory {
			wantFreeEnd(t, c, run.Kind, run.N, string(run.Text), run.Steps)
			kinds[run.Kind]++
			continue
		}
		// The one that joins texts again and again ends for want of frames then, the other one halts.
		if i == 5 {
			wantFreeEnd(t, c, impl.OutDeep, 0, "", 18+5*299)
		} else {
			wantFreeEnd(t, c, impl.OutHalt, 0, `"ab"`, 4)
		}
	}
	if len(kinds) != 4 {
		t.Error("the test's own ends:", kinds)
	}
}

// TestFreeOfFarMore: what no half has room for.
func TestFreeOfFarMore(t *testing.T) {
	longer := funBlock(tyData(1), tyData(1), "arg; set 0; "+strings.Repeat("int 1; get 0; con 1 1; set 0; ", 50)+"get 0; return")
	longer.Locals = []impl.Ty{tyData(1)}
	c := plainTrial("a long list", running(bodyOf(tyData(1), "con 1 0; set 0; "+strings.Repeat("close 1; get 0; call; set 0; ", 40)+"get 0; return", tyData(1)), longer))
	if run := c.run(); run.Kind != impl.OutMemory {
		t.Error("the test's own list:", sayOutcome(run))
	}
	wantFreeEnd(t, c, impl.OutHalt, 0, "#1(1, #1(1, #1(1, #1(1, #1(1, #1(1, #1(1, #1(1, ..))))))))", 2+40*(4+204)+2)
}

func TestFreeFuel(t *testing.T) {
	wantFuelAtTheEnd(t, wantFreeAsRaw)
	most, less := fuelTrials()
	wantFreeEnd(t, most, impl.OutFuel, 0, "", impl.MaxFuel)
	wantFreeEnd(t, less, impl.OutHalt, 0, "2048", stepsOfATree)
}
