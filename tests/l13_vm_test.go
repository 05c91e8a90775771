package tests

import (
	"fmt"
	"math"
	"slices"
	"strconv"
	"strings"
	"testing"

	"loop.example/g00293/impl"
)

// sayWords says numbers with a blank between each two.
func sayWords(words []int) string {
	var texts []string
	for _, n := range words {
		texts = append(texts, strconv.Itoa(n))
	}
	return strings.Join(texts, " ")
}

// sayUsed says the words that were taken, with where they begin ahead if that is not 0: `16: 0 5 7`.
func sayUsed(h impl.Heap) string {
	said := sayWords(h.Words[h.Low:h.Next])
	if h.Low > 0 {
		said = fmt.Sprint(h.Low, ": ", said)
	}
	return said
}

// sayLog says the places of all accesses; those with one Low and High stand behind these: `0-3: 2 1; 0-5: 3 4`.
func sayLog(log []impl.Access) string {
	var groups []string
	last := ""
	for _, a := range log {
		head := fmt.Sprint(a.Low, "-", a.High, ":")
		if head != last {
			groups, last = append(groups, head), head
		}
		groups[len(groups)-1] += fmt.Sprint(" ", a.At)
	}
	return strings.Join(groups, "; ")
}

// bodyOf is a block with a Res, some Locals and code.
func bodyOf(res impl.Ty, code string, locals ...impl.Ty) impl.Block {
	return impl.Block{Res: res, Locals: locals, Code: codeOf(code)}
}

// funBlock is a block that is closed: from arg to res, over env.
func funBlock(arg impl.Ty, res impl.Ty, code string, env ...impl.Ty) impl.Block {
	return impl.Block{Env: env, Arg: arg, Res: res, Code: codeOf(code)}
}

// running is a program of these blocks, over the layouts of runLayouts, with its Caps.
func running(blocks ...impl.Block) impl.Program {
	p := impl.Program{Layouts: runLayouts(), Blocks: blocks}
	p.Caps = rawCapsOf(p)
	return p
}

// runLayouts: 0 has constructors with none to three Fields; 1 is a list of ints; 2 a tree with texts.
func runLayouts() []impl.Layout {
	return []impl.Layout{
		{Cons: [][]impl.Ty{nil, {tyInt}, {tyText, tyInt}, {tyInt, tyUnit, tyText}}},
		{Cons: [][]impl.Ty{nil, {tyInt, tyData(1)}}},
		{Cons: [][]impl.Ty{{tyText}, {tyData(2), tyData(2), tyData(2)}}},
	}
}

// plainTrial runs a program with all that there may be.
func plainTrial(what string, p impl.Program) trial {
	return trial{what: what, p: p, half: impl.MaxHalf, grants: allCaps, fuel: impl.MaxFuel}
}

// wantEnd looks how a run ends: Kind, N, Text and Steps; and that the raw machine says so, too.
func wantEnd(t *testing.T, c trial, kind int, n int, text string, steps int) impl.Outcome {
	t.Helper()
	got := wantRunAsRaw(t, c)
	if got.Kind != kind || got.N != n || string(got.Text) != text || got.Steps != steps {
		t.Errorf("%s: %s\nnot kind %d, n %d, %q, %d steps", c.what, sayOutcome(got), kind, n, text, steps)
	}
	return got
}

// wantHeap looks at the words that were taken in the end, and at all accesses.
func wantHeap(t *testing.T, what string, h impl.Heap, used string, log string) {
	t.Helper()
	if sayUsed(h) != used || sayLog(h.Log) != log {
		t.Errorf("%s: words %q, log %q\nnot %q, %q", what, sayUsed(h), sayLog(h.Log), used, log)
	}
}

func TestLimitsOfTheMachine(t *testing.T) {
	if impl.MaxFuel != 60000 || impl.MaxFrames != 300 || impl.MaxShow != 8 {
		t.Error("the limits:", impl.MaxFuel, impl.MaxFrames, impl.MaxShow)
	}
	kinds := []int{impl.OutRefused, impl.OutHalt, impl.OutRaise, impl.OutMemory, impl.OutFuel, impl.OutDeep, impl.OutStuck}
	if !slices.Equal(kinds, []int{0, 1, 2, 3, 4, 5, 6}) {
		t.Error("the kinds:", kinds)
	}
}

// drawing5 is a program with a Cap.
func drawing5() impl.Program {
	return running(bodyOf(tyInt, "int 5; foreign 2; return"))
}

// A runTurn is one thing turned in a trial that may be run, and whether it may be run still.
type runTurn struct {
	what string
	turn func(c *trial)
	ok   bool
}

// beginTurns are the reasons that all machines have for the zero value, each by itself, at its limit and one beyond.
func beginTurns() []runTurn {
	turns := []runTurn{
		{"all as it must be", func(*trial) {}, true},
		{"one event", func(c *trial) { c.w.Trace = traceOf(1) }, false},
		{"MaxTrace events", func(c *trial) { c.w.Trace = traceOf(impl.MaxTrace) }, false},
		{"fuel -1", func(c *trial) { c.fuel = -1 }, false},
		{"fuel 0", func(c *trial) { c.fuel = 0 }, true},
		{"fuel MaxFuel", func(c *trial) { c.fuel = impl.MaxFuel }, true},
		{"fuel MaxFuel + 1", func(c *trial) { c.fuel = impl.MaxFuel + 1 }, false},
		{"fuel at the low end", func(c *trial) { c.fuel = math.MinInt }, false},
		{"fuel at the high end", func(c *trial) { c.fuel = math.MaxInt }, false},
		{"no grants", func(c *trial) { c.grants = nil }, false},
		{"other grants", func(c *trial) { c.grants = []int{0, 1, 3, 4, -2, 7} }, false},
		{"all grants and more", func(c *trial) { c.grants = []int{9, 4, 3, 2, 2, 1, 0, -1} }, true},
		{"no program", func(c *trial) { c.p = impl.Program{} }, false},
		{"no Caps", func(c *trial) { c.p.Caps = nil }, false},
		{"one Cap more", func(c *trial) { c.p.Caps, c.grants = []int{2, 3}, allCaps }, false},
		{"a block without states", func(c *trial) { c.p.Blocks = append(c.p.Blocks, bodyOf(tyInt, "unit; return")) }, false},
		{"a block that has some", func(c *trial) { c.p.Blocks = append(c.p.Blocks, bodyOf(tyInt, "int 1; return")) }, true},
		{"block 0 with Env", func(c *trial) { c.p.Blocks[0].Env = []impl.Ty{tyInt} }, false},
		{"block 0 with another Arg", func(c *trial) { c.p.Blocks[0].Arg = tyInt }, false},
		{"two reasons", func(c *trial) { c.w.Ticks, c.fuel = -1, -1 }, false},
	}
	for _, bad := range badWorlds() {
		turns = append(turns, runTurn{"the world: " + bad.name, func(c *trial) { c.w = bad.world }, false})
	}
	for _, good := range goodWorlds() {
		if len(good.world.Trace) == 0 {
			turns = append(turns, runTurn{"the world: " + good.name, func(c *trial) { c.w = good.world }, true})
		}
	}
	return turns
}

// turned answers a trial of drawing5 that is turned.
func (turn runTurn) turned() trial {
	c := trial{what: turn.what, p: drawing5(), half: 16, grants: []int{impl.CapDraw}, w: worldOfDraws(13), fuel: 3}
	turn.turn(&c)
	return c
}

// TestRunRefuses: each reason by itself, at its limit and one beyond.
func TestRunRefuses(t *testing.T) {
	turns := []runTurn{
		{"half MinHalf - 1", func(c *trial) { c.half = impl.MinHalf - 1 }, false},
		{"half 0", func(c *trial) { c.half = 0 }, false},
		{"half -1", func(c *trial) { c.half = -1 }, false},
		{"half MaxHalf", func(c *trial) { c.half = impl.MaxHalf }, true},
		{"half MaxHalf + 1", func(c *trial) { c.half = impl.MaxHalf + 1 }, false},
		{"half at the low end", func(c *trial) { c.half = math.MinInt }, false},
		{"half at the high end", func(c *trial) { c.half = math.MaxInt }, false},
		{"999 force", func(c *trial) { c.force = make([]int, 999) }, true},
		{"1000 force", func(c *trial) { c.force = make([]int, 1000) }, true},
		{"1001 force", func(c *trial) { c.force = make([]int, 1001) }, false},
		{"1001 force that force nothing", func(c *trial) { c.force = slices.Repeat([]int{-1}, 1001) }, false},
		{"half and fuel", func(c *trial) { c.half, c.fuel = 15, -1 }, false},
	}
	for _, turn := range append(turns, beginTurns()...) {
		c := turn.turned()
		got := c.run()
		if ok := got.Kind != impl.OutRefused; ok != turn.ok || !ok && !sameOutcome(got, impl.Outcome{}) {
			t.Errorf("%s: %s", c.what, sayOutcome(got))
		}
		wantRunAsRaw(t, c)
		b, ok := impl.CodeBytes(c.p)
		if asBytes := impl.RunBytes(b, c.half, c.grants, c.w, c.fuel, c.force); ok && !sameOutcome(asBytes, got) {
			t.Errorf("%s: of bytes %s", c.what, sayOutcome(asBytes))
		}
	}
}

// TestRunBytesRefuses: bytes that are no program's.
func TestRunBytesRefuses(t *testing.T) {
	b, _ := impl.CodeBytes(drawing5())
	if got := impl.RunBytes(b, 16, allCaps, worldOfDraws(13), 3, nil); got.Kind != impl.OutHalt || string(got.Text) != "3" {
		t.Error("the test's own bytes:", sayOutcome(got))
	}
	long, _ := impl.CodeBytes(fullProgram(impl.MaxBytes))
	for what, bytes := range map[string][]byte{
		"none": nil, "one byte": b[:1], "the mark alone": b[:2], "one byte less": b[:len(b)-1], "one byte more": append(slices.Clone(b), 0),
		"another mark": append([]byte("LL"), b[2:]...), "a text": []byte("(draw 5)"), "a number in two bytes": append([]byte{'L', 'K', 0x80, 0}, b[3:]...), "one more than MaxBytes": append(slices.Clone(long), 0), "twice": slices.Repeat(b, 2),
	} {
		if got := impl.RunBytes(bytes, 16, allCaps, worldOfDraws(13), 3, nil); !sameOutcome(got, impl.Outcome{}) {
			t.Errorf("%s: %s", what, sayOutcome(got))
		}
	}
	refused, ok := impl.CodeBytes(running(bodyOf(tyInt, "unit; return")))
	if got := impl.RunBytes(refused, 16, allCaps, impl.World{}, 3, nil); !ok || !sameOutcome(got, impl.Outcome{}) {
		t.Error("a program without states:", ok, sayOutcome(got))
	}
}

// TestEachInstruction: what is shown in the end, the words that were taken, and all loads and stores in their order.
func TestEachInstruction(t *testing.T) {
	adder := funBlock(tyInt, tyInt, "env 1; len; env 0; add; arg; add; return", tyInt, tyText)
	for _, c := range []struct {
		what   string
		blocks []impl.Block
		text   string
		steps  int
		used   string
		log    string
	}{
		{"unit", []impl.Block{bodyOf(tyUnit, "unit; return")}, "()", 2, "0", ""},
		{"int", []impl.Block{bodyOf(tyInt, "int -5; return")}, "-5", 2, "0", ""},
		{"the greatest int", []impl.Block{bodyOf(tyInt, "int 1073741823; return")}, "1073741823", 2, "0", ""},
		{"the least int", []impl.Block{bodyOf(tyInt, "int -1073741824; return")}, "-1073741824", 2, "0", ""},
		{"lit", []impl.Block{bodyOf(tyText, "lit ab; return")}, `"ab"`, 2, "0 2 97 98", "0-4: 1 2 3"},
		{"lit without bytes", []impl.Block{bodyOf(tyText, "lit; return")}, `""`, 2, "0 0", "0-2: 1"},
		{"lit of MaxLit bytes", []impl.Block{bodyOf(tyText, "lit abcdefghijklmnopqrst; return")}, `"abcdefghijklmnopqrst"`, 2, "0 20 97 98 99 100 101 102 103 104 105 106 107 108 109 110 111 112 113 114 115 116", "0-22: 1 2 3 4 5 6 7 8 9 10 11 12 13 14 15 16 17 18 19 20 21"},
		{"arg", []impl.Block{bodyOf(tyUnit, "arg; return")}, "()", 2, "0", ""},
		{"env", []impl.Block{bodyOf(tyInt, "int 7; lit x; close 1; int 100; call; return"), adder}, "108", 13, "0 1 120 1 7 1", "0-3: 1 2; 0-6: 3 5 4 3 5 1 4"},
		{"self", []impl.Block{bodyOf(tyOf(impl.TyFun, tyUnit, tyInt), "close 1; return"), funBlock(tyUnit, tyInt, "self; arg; call; return")}, "fn", 2, "0 1", "0-2: 1"},
		{"self that is called", []impl.Block{bodyOf(tyInt, "close 1; int 2; call; return"), funBlock(tyInt, tyInt, "arg; if out; self; arg; int 1; sub; call; int 10; add; return; out: int 3; return")}, "23", 28, "0 1", "0-2: 1 1 1 1"},
		{"set and get", []impl.Block{bodyOf(tyInt, "int 5; set 1; int 3; set 0; get 1; get 0; sub; int 9; set 1; get 1; mul; return", tyInt, tyInt)}, "18", 12, "0", ""},
		{"sub", []impl.Block{bodyOf(tyInt, "int 3; int 5; sub; return")}, "-2", 4, "0", ""},
		{"less", []impl.Block{bodyOf(tyInt, "int 3; int 5; less; return")}, "1", 4, "0", ""},
		{"less of the same", []impl.Block{bodyOf(tyInt, "int 5; int 5; less; return")}, "0", 4, "0", ""},
		{"less of more", []impl.Block{bodyOf(tyInt, "int 5; int 3; less; return")}, "0", 4, "0", ""},
		{"same", []impl.Block{bodyOf(tyInt, "int 5; int 5; same; return")}, "1", 4, "0", ""},
		{"same of others", []impl.Block{bodyOf(tyInt, "int 5; int -5; same; return")}, "0", 4, "0", ""},
		{"cat", []impl.Block{bodyOf(tyText, "lit ab; lit c; cat; return")}, `"abc"`, 4, "0 2 97 98 1 99 3 97 98 99", "0-4: 1 2 3; 0-6: 4 5 1 2 3 4 5; 0-10: 6 7 8 9"},
		{"cat of nothing", []impl.Block{bodyOf(tyText, "lit; lit; cat; return")}, `""`, 4, "0 0 0 0", "0-2: 1; 0-3: 2 1 2; 0-4: 3"},
		{"len", []impl.Block{bodyOf(tyInt, "lit abc; len; return")}, "3", 3, "0 3 97 98 99", "0-5: 1 2 3 4 1"},
		{"pair", []impl.Block{bodyOf(tyOf(impl.TyPair, tyInt, tyUnit), "int 5; unit; pair; return")}, "(5, ())", 4, "0 5 0", "0-3: 2 1"},
		{"fst", []impl.Block{bodyOf(tyInt, "int 5; int 7; pair; fst; return")}, "5", 5, "0 5 7", "0-3: 2 1 1"},
		{"snd", []impl.Block{bodyOf(tyInt, "int 5; int 7; pair; snd; return")}, "7", 5, "0 5 7", "0-3: 2 1 2"},
		{"ref", []impl.Block{bodyOf(inRef(tyInt), "int 5; ref; return")}, "ref(5)", 3, "0 5", "0-2: 1"},
		{"read", []impl.Block{bodyOf(tyInt, "int 5; ref; read; return")}, "5", 4, "0 5", "0-2: 1 1"},
		{"write", []impl.Block{bodyOf(tyUnit, "int 5; ref; int 8; write; return")}, "()", 5, "0 8", "0-2: 1 1"},
		{"what write leaves", []impl.Block{bodyOf(tyOf(impl.TyPair, tyUnit, tyInt), "int 5; ref; int 8; write; int 3; pair; return")}, "((), 3)", 7, "0 8 0 3", "0-2: 1 1; 0-4: 3 2"},
		{"what unit and arg leave", []impl.Block{bodyOf(tyOf(impl.TyPair, tyUnit, tyUnit), "unit; arg; pair; return")}, "((), ())", 4, "0 0 0", "0-3: 2 1"},
		{"write and read", []impl.Block{bodyOf(tyInt, "int 5; ref; set 0; get 0; int 8; write; set 1; get 0; read; return", inRef(tyInt), tyUnit)}, "8", 10, "0 8", "0-2: 1 1 1"},
		{"con without Fields", []impl.Block{bodyOf(tyData(0), "con 0 0; return")}, "#0", 2, "0 0", "0-2: 1"},
		{"con with one", []impl.Block{bodyOf(tyData(0), "int 5; con 0 1; return")}, "#1(5)", 3, "0 1 5", "0-3: 1 2"},
		{"con with two", []impl.Block{bodyOf(tyData(0), "lit a; int 5; con 0 2; return")}, `#2("a", 5)`, 4, "0 1 97 2 1 5", "0-3: 1 2; 0-6: 3 5 4"},
		{"con with three", []impl.Block{bodyOf(tyData(0), "int 5; unit; lit a; con 0 3; return")}, `#3(5, (), "a")`, 5, "0 1 97 3 5 0 1", "0-3: 1 2; 0-7: 3 6 5 4"},
		{"close of nothing", []impl.Block{bodyOf(tyOf(impl.TyFun, tyInt, tyInt), "close 1; return"), funBlock(tyInt, tyInt, "arg; return")}, "fn", 2, "0 1", "0-2: 1"},
		{"close", []impl.Block{bodyOf(tyOf(impl.TyFun, tyInt, tyInt), "int 7; lit; close 2; return"), funBlock(tyInt, tyInt, "arg; return"), adder}, "fn", 4, "0 0 2 7 1", "0-2: 1; 0-5: 2 4 3"},
		{"call", []impl.Block{bodyOf(tyInt, "int 100; close 1; int 8; call; sub; return"), funBlock(tyInt, tyInt, "arg; arg; mul; return")}, "36", 10, "0 1", "0-2: 1 1"},
		{"jump", []impl.Block{bodyOf(tyInt, "int 1; if on; int 5; jump end; on: int 6; end: return")}, "5", 5, "0", ""},
		{"if of 0", []impl.Block{bodyOf(tyInt, "int 0; if on; int 5; return; on: int 6; return")}, "6", 4, "0", ""},
		{"if of -1", []impl.Block{bodyOf(tyInt, "int -1; if on; int 5; return; on: int 6; return")}, "5", 4, "0", ""},
		{"try and done", []impl.Block{bodyOf(tyInt, "try out; int 4; done; return; out: return")}, "4", 4, "0", ""},
		{"try and raise", []impl.Block{bodyOf(tyInt, "try out; int 4; raise; out: int 1; add; return")}, "5", 6, "0", ""},
	} {
		got := wantEnd(t, plainTrial(c.what, running(c.blocks...)), impl.OutHalt, 0, c.text, c.steps)
		wantHeap(t, c.what, got.Heap, c.used, c.log)
		if got.Moves != 0 || got.Heap.Half != impl.MaxHalf || !isZeroWorld(got.World) {
			t.Errorf("%s: %s", c.what, sayOutcome(got))
		}
	}
}

// TestCase: the first word is loaded, then the Fields, from the first on; the last one is on top.
func TestRunOfCase(t *testing.T) {
	code := "case 0 none one two three; none: int 7; return; one: int 1; add; return; two: set 0; len; get 0; sub; return; three: set 1; set 2; get 1; len; sub; return"
	for con, c := range []struct {
		made  string
		text  string
		steps int
		used  string
		log   string
	}{
		{"con 0 0; ", "7", 4, "0 0", "0-2: 1 1"},
		{"int 5; con 0 1; ", "6", 6, "0 1 5", "0-3: 1 2 1 2"},
		{"lit ab; int 7; con 0 2; ", "-5", 9, "0 2 97 98 2 1 7", "0-4: 1 2 3; 0-7: 4 6 5 4 5 6 1"},
		{"int 9; unit; lit abc; con 0 3; ", "6", 11, "0 3 97 98 99 3 9 0 1", "0-5: 1 2 3 4; 0-9: 5 8 7 6 5 6 7 8 1"},
	} {
		what := fmt.Sprint("constructor ", con)
		got := wantEnd(t, plainTrial(what, running(bodyOf(tyInt, c.made+code, tyInt, tyText, tyUnit))), impl.OutHalt, 0, c.text, c.steps)
		wantHeap(t, what, got.Heap, c.used, c.log)
	}
}

// TestSumsAtBothEnds: sums, differences and products are such as Wrap leaves.
func TestSumsAtBothEnds(t *testing.T) {
	numbers := []int{0, 1, -1, 2, -2, 1 << 31, -1 << 31, 3037000500, 1 << 61, -1 << 61, leastWrapped, leastWrapped + 1, greatestWrapped, greatestWrapped - 1, 0x1234567812345678}
	ops := map[string]func(a int, b int) int{
		"add":  func(a int, b int) int { return impl.Wrap(a + b) },
		"sub":  func(a int, b int) int { return impl.Wrap(a - b) },
		"mul":  func(a int, b int) int { return impl.Wrap(a * b) },
		"less": func(a int, b int) int { return map[bool]int{true: 1}[a < b] },
		"same": func(a int, b int) int { return map[bool]int{true: 1}[a == b] },
	}
	for op, want := range ops {
		p := running(bodyOf(tyInt, "int 0; foreign 3; int 1; foreign 3; "+op+"; return"))
		for _, a := range numbers {
			for _, b := range numbers {
				c := plainTrial(fmt.Sprint(op, " of ", a, " and ", b), p)
				c.w.Store = []impl.Entry{{Key: 0, Value: a}, {Key: 1, Value: b}}
				wantEnd(t, c, impl.OutHalt, 0, strconv.Itoa(want(a, b)), 6)
			}
		}
	}
	for _, c := range []struct {
		code string
		text string
	}{
		{"mul; int 4; mul; return", "-4611686018427387904"},
		{"mul; int 4; mul; int 1; sub; return", "4611686018427387903"},
		{"mul; int 4; mul; int 1; sub; int 1; add; return", "-4611686018427387904"},
		{"mul; int 8; mul; return", "0"},
	} {
		p := running(bodyOf(tyInt, "int -1073741824; int -1073741824; "+c.code))
		wantEnd(t, plainTrial(c.code, p), impl.OutHalt, 0, c.text, len(p.Blocks[0].Code))
	}
}

// litsOf are instructions that push a text of so many bytes, by literals that are joined.
func litsOf(size int, letter string) string {
	code := "lit " + strings.Repeat(letter, min(size, impl.MaxLit)) + "; "
	for size -= impl.MaxLit; size > 0; size -= impl.MaxLit {
		code += "lit " + strings.Repeat(letter, min(size, impl.MaxLit)) + "; cat; "
	}
	return code
}

// TestLongTexts: of both texts' bytes the first MaxString; all bytes of both are loaded.
func TestLongTexts(t *testing.T) {
	for _, c := range [][2]int{{20, 20}, {40, 19}, {40, 20}, {40, 21}, {59, 1}, {60, 0}, {60, 1}, {0, 60}, {1, 60}, {60, 60}, {59, 60}, {1, 59}, {30, 31}} {
		what := fmt.Sprint(c[0], " and ", c[1], " bytes")
		both := strings.Repeat("a", c[0]) + strings.Repeat("b", c[1])
		ahead := running(bodyOf(tyInt, litsOf(c[0], "a")+litsOf(c[1], "b")+"int 0; raise"))
		before := plainTrial(what, ahead).run()
		p := running(bodyOf(tyText, litsOf(c[0], "a")+litsOf(c[1], "b")+"cat; return"))
		got := wantEnd(t, plainTrial(what, p), impl.OutHalt, 0, `"`+both[:min(60, len(both))]+`"`, len(p.Blocks[0].Code))
		touched := len(got.Heap.Log) - len(before.Heap.Log)
		if want := c[0] + c[1] + 2 + min(60, len(both)) + 1; touched != want || got.Heap.Next != before.Heap.Next+1+min(60, len(both)) {
			t.Errorf("%s: %d accesses, not %d; %d words were taken", what, touched, want, got.Heap.Next)
		}
	}
}

// goingDown is a block that calls itself as often as its argument says, and answers that by what it is called with last.
func goingDown() impl.Block {
	return funBlock(tyInt, tyInt, "arg; if out; self; arg; int 1; sub; call; return; out: int 5; return")
}

// TestHowManyFrames: the frame of block 0 is one of MaxFrames.
func TestHowManyFrames(t *testing.T) {
	for _, c := range []struct {
		down  int
		kind  int
		text  string
		steps int
	}{
		{0, impl.OutHalt, "5", 8}, {1, impl.OutHalt, "5", 16}, {impl.MaxFrames - 3, impl.OutHalt, "5", 8 + 8*297},
		{impl.MaxFrames - 2, impl.OutHalt, "5", 8 + 8*298}, {impl.MaxFrames - 1, impl.OutDeep, "", 3 + 7*299}, {impl.MaxFrames, impl.OutDeep, "", 3 + 7*299},
	} {
		what := fmt.Sprint("down ", c.down)
		p := running(bodyOf(tyInt, fmt.Sprint("close 1; int ", c.down, "; call; return")), goingDown())
		got := wantEnd(t, plainTrial(what, p), c.kind, 0, c.text, c.steps)
		// Where there are MaxFrames the function's word is not loaded.
		if want := 1 + min(c.down+1, impl.MaxFrames-1); len(got.Heap.Log) != want {
			t.Errorf("%s: %d accesses, not %d", what, len(got.Heap.Log), want)
		}
	}
	twice := bodyOf(tyInt, "close 1; int 298; call; close 1; int 298; call; add; return")
	wantEnd(t, plainTrial("twice as deep as can be", running(twice, goingDown())), impl.OutHalt, 0, "10", 2*(3+8*298+4)+2)
	wantEnd(t, plainTrial("the second time deeper", running(bodyOf(tyInt, "close 1; int 298; call; close 1; int 299; call; add; return"), goingDown())), impl.OutDeep, 0, "", 3+8*298+4+3+7*299)
	wantEnd(t, plainTrial("too deep within a try", running(bodyOf(tyInt, "try out; close 1; int 299; call; done; return; out: return"), goingDown())), impl.OutDeep, 0, "", 4+7*299)
	endless := bodyOf(tyInt, "close 1; unit; call; return")
	wantEnd(t, plainTrial("without an end", running(endless, funBlock(tyUnit, tyInt, "self; arg; call; return"))), impl.OutDeep, 0, "", 3+3*299)
}

// TestFramesThatRaiseAreGone: their places are free again, as are those of frames that were raised through.
func TestFramesThatRaiseAreGone(t *testing.T) {
	raising := funBlock(tyInt, tyInt, "arg; if out; self; arg; int 1; sub; call; return; out: int 5; raise")
	p := running(bodyOf(tyInt, "try a; close 1; int 298; call; done; a: set 0; try b; close 1; int 298; call; done; b: get 0; add; return", tyInt), raising)
	wantEnd(t, plainTrial("raised through all frames, twice", p), impl.OutHalt, 0, "10", 2*(4+7*298+4)+4)
}

// A raising is code that raises, and how it ends.
type raising struct {
	what  string
	code  string
	kind  int
	n     int
	text  string
	steps int
}

// raisings tell which try takes what is raised, with which stack, and what is gone.
func raisings() []raising {
	return []raising{
		{"no try", "int 7; raise", impl.OutRaise, 7, "", 2},
		{"no try, a raise of 0", "int 0; raise", impl.OutRaise, 0, "", 2},
		{"no try, below 0", "int -7; raise", impl.OutRaise, -7, "", 2},
		{"within a try", "try out; int 7; raise; out: return", impl.OutHalt, 0, "7", 4},
		{"the stack is cut to two, and what was raised", "int 1; int 2; try out; int 3; int 4; int 5; raise; out: mul; sub; return", impl.OutHalt, 0, "-9", 10},
		{"behind done", "try out; int 7; done; raise; out: return", impl.OutRaise, 7, "", 4},
		{"behind done, within another try", "int 1; try far; int 4; try near; int 7; done; raise; near: raise; far: sub; return", impl.OutHalt, 0, "-6", 9},
		{"the inner one of two", "int 1; try far; int 4; try near; int 7; raise; near: mul; done; sub; return; far: sub; return", impl.OutHalt, 0, "-27", 10},
		{"once more where it is taken", "int 1; try far; int 4; try near; int 7; raise; near: mul; raise; far: sub; return", impl.OutHalt, 0, "-27", 10},
		{"where it is taken, without another try", "try out; int 7; raise; out: int 1; add; raise", impl.OutRaise, 8, "", 6},
		{"a called one", "close 1; int 7; call; return", impl.OutRaise, 7, "", 5},
		{"a called one, within a try", "int 100; try out; close 1; int 7; call; done; out: sub; return", impl.OutHalt, 0, "93", 9},
		{"a called one, with more on the stack", "int 100; try out; int 50; close 1; int 7; call; add; done; out: sub; return", impl.OutHalt, 0, "93", 10},
		{"through a frame that waits", "int 100; try out; close 2; int 7; call; done; out: sub; return", impl.OutHalt, 0, "92", 14},
		{"through a frame that waits, without a try", "close 2; int 7; call; return", impl.OutRaise, 8, "", 10},
		{"taken by the nearest frame", "int 100; try out; close 3; int 7; call; done; jump end; out: int 1000; mul; end: sub; return", impl.OutHalt, 0, "30", 18},
		{"taken by two frames", "int 100; try out; close 4; int 7; call; done; out: sub; return", impl.OutHalt, 0, "92", 16},
		{"taken, without another try", "close 4; int 7; call; return", impl.OutRaise, 8, "", 12},
		{"a called one gone, then its own", "try out; close 3; int 7; call; done; raise; out: int 1; add; return", impl.OutRaise, 70, "", 15},
	}
}

// trial runs it beside blocks that raise, go through, take it, and raise what they took.
func (r raising) trial() trial {
	return plainTrial(r.what, running(bodyOf(tyInt, r.code),
		funBlock(tyInt, tyInt, "arg; raise"),
		funBlock(tyInt, tyInt, "close 1; arg; int 1; add; call; return"),
		funBlock(tyInt, tyInt, "try out; close 1; arg; call; done; return; out: int 10; mul; return"),
		funBlock(tyInt, tyInt, "try out; close 1; arg; call; done; return; out: int 1; add; raise")))
}

func TestRunOfRaise(t *testing.T) {
	for _, r := range raisings() {
		wantEnd(t, r.trial(), r.kind, r.n, r.text, r.steps)
	}
}

// foreignLines are code that makes a call, and the call.
func foreignLines() []struct {
	code string
	call impl.Event
} {
	list := []struct {
		code string
		call impl.Event
	}{{"foreign 1", impl.Event{Cap: impl.CapTick}}}
	add := func(code string, call impl.Event) {
		list = append(list, struct {
			code string
			call impl.Event
		}{code, call})
	}
	for _, size := range []int{0, 1, 20, 21, 59, 60, 61} {
		add(litsOf(size, "p")+"foreign 0", impl.Event{Lit: []byte(strings.Repeat("p", min(size, 60)))})
	}
	for _, n := range []int{-9, -1, 0, 1, 5, 8, 10, 11, 1073741823, -1073741824} {
		add(fmt.Sprint("int ", n, "; foreign 2"), impl.Event{Cap: impl.CapDraw, A: n})
		add(fmt.Sprint("int ", n, "; foreign 3"), impl.Event{Cap: impl.CapGet, A: n})
		add(fmt.Sprint("int ", n, "; int 77; foreign 4"), impl.Event{Cap: impl.CapPut, A: n, B: 77})
		add(fmt.Sprint("int 8; int ", n, "; foreign 4"), impl.Event{Cap: impl.CapPut, A: 8, B: n})
	}
	return list
}

// TestRunOfForeign: each kind, with draws and without, the store full and not, ticks at their end.
func TestRunOfForeign(t *testing.T) {
	worlds := []impl.World{
		{}, {Ticks: 5, Draws: []int{17, 4}, Store: worldOfKeys(-9, 0, 8).Store}, worldOfTicks(impl.MaxNum), worldOfDraws(0), worldOfDraws(slices.Repeat([]int{impl.MaxNum}, impl.MaxDraws)...),
		worldOfKeys(keysOf(impl.MaxStore - 1)...), worldOfKeys(keysOf(impl.MaxStore)...), worldOfEntry(8, leastWrapped), worldOfEntry(8, greatestWrapped),
	}
	for i, w := range worlds {
		for _, line := range foreignLines() {
			res := tyInt
			if line.call.Cap == impl.CapPrint || line.call.Cap == impl.CapPut {
				res = tyUnit
			}
			want, answer, _ := impl.Foreign(w, line.call.Cap, line.call.A, line.call.B, line.call.Lit)
			text := strconv.Itoa(answer)
			if res.Kind == impl.TyUnit {
				text = "()"
			}
			c := plainTrial(fmt.Sprint("world ", i, ": ", line.code), running(bodyOf(res, line.code+"; return")))
			c.w, c.grants = w, []int{line.call.Cap}
			got := wantEnd(t, c, impl.OutHalt, 0, text, len(c.p.Blocks[0].Code))
			if !sameWorld(got.World, want) {
				t.Errorf("%s: %s\nnot %s", c.what, sayWorld(got.World), sayWorld(want))
			}
		}
	}
	c := plainTrial("the text that is printed is loaded", running(bodyOf(tyUnit, "lit hi; foreign 0; return")))
	wantHeap(t, c.what, wantEnd(t, c, impl.OutHalt, 0, "()", 3).Heap, "0 2 104 105", "0-4: 1 2 3 1 2 3")
	c = plainTrial("what print and put leave", running(bodyOf(tyOf(impl.TyPair, tyUnit, tyUnit), "lit; foreign 0; int 4; int 9; foreign 4; pair; return")))
	wantHeap(t, c.what, wantEnd(t, c, impl.OutHalt, 0, "((), ())", 7).Heap, "0 0 0 0", "0-2: 1 1; 0-4: 3 2")
	c = plainTrial("several calls", running(bodyOf(tyInt, "foreign 1; set 0; int 3; get 0; foreign 4; set 1; int 3; foreign 3; int 50; foreign 2; sub; try out; lit x; foreign 0; set 1; int 9; raise; out: mul; return", tyInt, tyUnit)))
	c.w = impl.World{Ticks: 40, Draws: []int{61, 62}}
	got := wantEnd(t, c, impl.OutHalt, 0, "261", 19)
	want := impl.World{Ticks: 41, Draws: []int{62}, Store: []impl.Entry{{Key: 3, Value: 40}}, Trace: []impl.Event{
		{Cap: 1, Res: 40}, {Cap: 4, A: 3, B: 40}, {Cap: 3, A: 3, Res: 40}, {Cap: 2, A: 50, Res: 11}, {Cap: 0, Lit: []byte("x")}}}
	if !sameWorld(got.World, want) {
		t.Errorf("several calls: %s", sayWorld(got.World))
	}
}

// tickingProgram ticks 19800 times in a block that calls itself, and then as often as told; then it does what the last code says.
func tickingProgram(ticks int, res impl.Ty, last string) impl.Program {
	down := bodyOf(tyInt, strings.Repeat("foreign 1; set 0; ", 200)+"arg; if out; self; arg; int 1; sub; call; return; out: int 0; return", tyInt)
	down.Arg = tyInt
	return running(bodyOf(res, "close 1; int 98; call; set 0; "+strings.Repeat("foreign 1; set 0; ", ticks-19800)+last, tyInt), down)
}

// TestTraceAtItsLimit: the last event there may be is one; behind it a call answers 0, and the world stays as it is.
func TestTraceAtItsLimit(t *testing.T) {
	start := impl.World{Ticks: 3, Draws: []int{5, 6}, Store: worldOfKeys(3).Store}
	for _, c := range []struct {
		code string
		call impl.Event
		text string
	}{
		{"lit hi; foreign 0; return", impl.Event{Lit: []byte("hi")}, "()"}, {"foreign 1; return", impl.Event{Cap: impl.CapTick}, "20002"},
		{"int 1000; foreign 2; return", impl.Event{Cap: impl.CapDraw, A: 1000}, "5"}, {"int 3; foreign 3; return", impl.Event{Cap: impl.CapGet, A: 3}, "10"},
		{"int 3; int 4; foreign 4; return", impl.Event{Cap: impl.CapPut, A: 3, B: 4}, "()"}, {"int 1; int 4; foreign 4; return", impl.Event{Cap: impl.CapPut, A: 1, B: 4}, "()"},
	} {
		res := map[bool]impl.Ty{true: tyUnit, false: tyInt}[c.text == "()"]
		for _, ticks := range []int{impl.MaxTrace - 1, impl.MaxTrace, impl.MaxTrace + 7} {
			trial := plainTrial(fmt.Sprint(c.code, " behind ", ticks, " ticks"), tickingProgram(ticks, res, c.code))
			trial.w = start
			before := start
			for i := range min(ticks, impl.MaxTrace) {
				before.Trace = append(before.Trace, impl.Event{Cap: impl.CapTick, Res: 3 + i})
			}
			before.Ticks += len(before.Trace)
			want, _, ok := impl.Foreign(before, c.call.Cap, c.call.A, c.call.B, c.call.Lit)
			text := c.text
			if !ok {
				want = before
				if res.Kind == impl.TyInt {
					text = "0"
				}
			}
			got := wantEnd(t, trial, impl.OutHalt, 0, text, 98*408+404+len(trial.p.Blocks[0].Code))
			if !sameWorld(got.World, want) || ok != (ticks < impl.MaxTrace) {
				t.Errorf("%s: %s", trial.what, sayWorld(got.World))
			}
		}
	}
}
