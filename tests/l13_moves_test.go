package tests

import (
	"fmt"
	"slices"
	"strings"
	"testing"

	"loop.example/g00293/impl"
)

// letters are so many bytes of a literal.
func letters(count int) string { return strings.Repeat("x", count) }

// textWordsSaid are the words of a text of so many letters, as sayWords says them.
func textSaid(count int) string { return sayWords(textWords(letters(count))) }

// A making is code that makes one object of so many words; what it is shown as, and its words.
type making struct {
	what string
	res  impl.Ty
	code string
	size int
	text string
	used string
}

func makings() []making {
	return []making{
		{"a text", tyText, "lit ab; ", 3, `"ab"`, "2 97 98"}, {"a text without bytes", tyText, "lit; ", 1, `""`, "0"},
		{"a pair", tyOf(impl.TyPair, tyInt, tyInt), "int 5; int 6; pair; ", 2, "(5, 6)", "5 6"}, {"a ref", inRef(tyInt), "int 5; ref; ", 1, "ref(5)", "5"},
		{"a data without Fields", tyData(0), "con 0 0; ", 1, "#0", "0"}, {"a data", tyData(0), "int 5; con 0 1; ", 2, "#1(5)", "1 5"},
		{"a fun without Env", tyOf(impl.TyFun, tyInt, tyInt), "close 1; ", 1, "fn", "1"}, {"a fun", tyOf(impl.TyFun, tyInt, tyInt), "int 5; int 6; int 7; close 2; ", 4, "fn", "2 5 6 7"},
	}
}

// program makes an object behind code that takes up room.
func (m making) program(ahead string) impl.Program {
	return running(bodyOf(m.res, ahead+m.code+"return", tyText, tyInt),
		funBlock(tyInt, tyInt, "arg; return"), funBlock(tyInt, tyInt, "arg; return", tyInt, tyInt, tyInt))
}

// TestRoomForAnObject: there is just room, or one word less; then a collection makes room where there is something that nobody reaches.
func TestRoomForAnObject(t *testing.T) {
	for _, m := range makings() {
		for half := 16; half < 19; half++ {
			fits := half - m.size - 2 // letters of a text that leaves just room, with the function's word and the text's count
			c := plainTrial(m.what+", just room", m.program("lit "+letters(fits)+"; set 0; "))
			c.half = half
			got := wantEnd(t, c, impl.OutHalt, 0, m.text, len(c.p.Blocks[0].Code))
			if used := sayUsed(got.Heap); got.Moves != 0 || used != "0 "+textSaid(fits)+" "+m.used || got.Heap.Next != half {
				t.Errorf("%s: %q, %d moves", c.what, used, got.Moves)
			}
			c.what, c.p = m.what+", one word less", m.program("lit "+letters(fits+1)+"; set 0; ")
			got = wantEnd(t, c, impl.OutMemory, 0, "", len(c.p.Blocks[0].Code)-1)
			if used := sayUsed(got.Heap); got.Moves != 1 || used != fmt.Sprint(half, ": 0 ", textSaid(fits+1)) {
				t.Errorf("%s: %q, %d moves", c.what, used, got.Moves)
			}
			c.what, c.p = m.what+", just room beside what nobody reaches", m.program("lit "+letters(fits)+"; len; set 1; ")
			got = wantEnd(t, c, impl.OutHalt, 0, m.text, len(c.p.Blocks[0].Code))
			if got.Moves != 0 || got.Heap.Next != half || got.Heap.Low != 0 {
				t.Errorf("%s: %s", c.what, sayOutcome(got))
			}
			c.what, c.p = m.what+", room behind a collection", m.program("lit "+letters(fits+1)+"; len; set 1; ")
			got = wantEnd(t, c, impl.OutHalt, 0, m.text, len(c.p.Blocks[0].Code))
			if used := sayUsed(got.Heap); got.Moves != 1 || used != fmt.Sprint(half, ": 0 ", m.used) {
				t.Errorf("%s: %q, %d moves", c.what, used, got.Moves)
			}
		}
	}
}

// TestPartsStillOnTheStack: what an object is made of is reached by the collection ahead of it.
func TestPartsStillOnTheStack(t *testing.T) {
	garbage := "lit xxxxxxxx; len; set 0; "
	garbageLog := "0-10: 1 2 3 4 5 6 7 8 9 1"
	eater := funBlock(tyText, tyText, "arg; return", tyText, tyInt, tyText)
	for _, c := range []struct {
		what  string
		res   impl.Ty
		code  string
		text  string
		steps int
		used  string
		log   string
	}{
		{"a pair", tyOf(impl.TyPair, tyText, tyText), "lit ab; lit c; pair; return", `("ab", "c")`, 7, "16: 0 2 97 98 1 99 17 20", "; 0-13: 10 11 12; 0-15: 13 14; 16-24: 23 22"},
		{"a ref", inRef(tyText), "lit abcde; ref; return", `ref("abcde")`, 6, "16: 0 5 97 98 99 100 101 17", "; 0-16: 10 11 12 13 14 15; 16-24: 23"},
		{"a data", tyData(0), "int 7; unit; lit ab; con 0 3; return", `#3(7, (), "ab")`, 8, "16: 0 2 97 98 3 7 0 17", "; 0-13: 10 11 12; 16-24: 20 23 22 21"},
		{"a fun", tyOf(impl.TyFun, tyText, tyText), "lit a; int 9; lit b; close 1; return", "fn", 8, "16: 0 1 97 1 98 1 17 9 19", "; 0-12: 10 11; 0-14: 12 13; 16-25: 21 24 23 22"},
		{"two texts", tyText, "lit ab; lit c; cat; return", `"abc"`, 7, "16: 0 2 97 98 1 99 3 97 98 99", "; 0-13: 10 11 12; 0-15: 13 14 10 11 12 13 14; 16-26: 22 23 24 25"},
		{"what is below", tyOf(impl.TyPair, tyText, tyOf(impl.TyPair, tyInt, tyText)), "lit a; int 3; lit bc; pair; pair; return", `("a", (3, "bc"))`, 9, "16: 0 1 97 2 98 99 3 19 17 22", "; 0-12: 10 11; 0-15: 12 13 14; 16-24: 23 22; 16-26: 25 24"},
	} {
		trial := plainTrial(c.what, running(bodyOf(c.res, garbage+c.code, tyInt), eater))
		trial.half = 16
		got := wantEnd(t, trial, impl.OutHalt, 0, c.text, c.steps)
		wantHeap(t, c.what, got.Heap, c.used, garbageLog+c.log)
		if got.Moves != 1 {
			t.Errorf("%s: %d moves", c.what, got.Moves)
		}
		// Where nothing is to be left out there is no room; all of it is still reached.
		trial.p = running(bodyOf(c.res, strings.Replace(garbage, "len; ", "", 1)+c.code, tyText), eater)
		got = trial.run()
		if wantRunAsRaw(t, trial); got.Kind != impl.OutMemory || got.Moves < 1 || got.Heap.Low != 16 || !strings.HasPrefix(sayUsed(got.Heap), "16: 0 8 120 120") {
			t.Errorf("%s: %s", c.what, sayOutcome(got))
		}
	}
}

// TestFramesThatWait: of each frame its function, its argument, the Locals that are set and the stack stay, in this order;
// of a frame that waits not the operands of its call.
func TestFramesThatWait(t *testing.T) {
	first := bodyOf(tyText, "lit L; set 1; lit S; lit E; close 1; lit A; call; cat; get 1; cat; return", tyInt, tyText, tyText)
	second := funBlock(tyText, tyText, "lit l; set 0; lit s; lit a; close 2; lit b; call; cat; get 0; cat; env 0; cat; arg; cat; return", tyText)
	second.Locals = []impl.Ty{tyText}
	third := funBlock(tyText, tyText, "lit xxxxxxxxxxxxxxxxxxxx; len; if on; on: lit u; lit v; int 8; ref; int 0; int 9; if end; end: set 1; set 0; cat; arg; cat; env 0; cat; return", tyText)
	third.Locals = []impl.Ty{inRef(tyInt), tyInt}
	p := running(first, second, third)
	c := plainTrial("three frames", p)
	full := wantEnd(t, c, impl.OutHalt, 0, `"SsuvbalEAL"`, 44)
	for half := 16; half < 90; half++ {
		c.what, c.half = fmt.Sprint("three frames, half ", half), half
		got := wantRunAsRaw(t, c)
		if got.Kind != impl.OutMemory && !sameButHeap(got, full) {
			t.Errorf("%s: %s", c.what, sayOutcome(got))
		}
	}
	// Behind 7 steps of the first block, 7 of the second one and 6 of the third one there is a collection; then a ref is made.
	c.half, c.force, c.fuel = 100, []int{20}, 21
	got := wantEnd(t, c, impl.OutFuel, 0, "", 21)
	// The first frame has its function, L and S; the second one its function (over E), A, l and s; the third one its function (over a), b, u and v.
	want := "100: 0 1 76 1 83 1 121 1 65 1 108 1 115 2 123 1 98 1 117 1 118 1 69 1 97 8"
	if used := sayUsed(got.Heap); got.Moves != 1 || used != want {
		t.Errorf("frames that wait: %q, not %q", used, want)
	}
}

// TestLocalsThatAreRoots: those that are set by the state of the instruction, whatever was put there.
func TestLocalsThatAreRoots(t *testing.T) {
	for _, c := range []struct {
		what string
		code string
		at   int
		used string
	}{
		{"one that is set", "lit ab; set 0; unit; return", 2, "16: 0 2 97 98"},
		{"one that is not", "lit ab; set 1; unit; return", 2, "16: 0 2 97 98"},
		{"two, the last one first", "lit ab; set 1; lit c; set 0; unit; return", 4, "16: 0 1 99 2 97 98"},
		{"one that is set again", "lit ab; set 0; lit c; set 0; unit; return", 4, "16: 0 1 99"},
		{"one ahead of its set", "lit ab; set 0; unit; return", 1, "16: 0 2 97 98"},
		{"one that was set on one of two ways", "int 1; if on; lit ab; set 0; on: unit; return", 4, "16: 0"},
		{"one on its way", "int 1; if on; lit ab; set 0; int 3; set 2; on: unit; return", 4, "16: 0 2 97 98"},
		{"one that was set on both ways", "int 1; if on; lit ab; set 0; jump end; on: lit c; set 0; end: unit; return", 5, "16: 0 2 97 98"},
		{"one that was set within a try", "try out; lit ab; set 0; int 1; raise; out: set 2; unit; return", 6, "16: 0"},
		{"one within the try", "try out; lit ab; set 0; int 1; raise; out: set 2; unit; return", 4, "16: 0 2 97 98"},
		{"one that was set ahead of a try", "lit ab; set 0; try out; lit c; set 1; int 1; raise; out: set 2; unit; return", 8, "16: 0 2 97 98"},
		{"one place in two locals", "lit ab; set 0; get 0; set 1; unit; return", 4, "16: 0 2 97 98"},
		{"what is on the stack alone", "lit ab; int 7; set 2; set 0; unit; return", 2, "16: 0 2 97 98"},
		{"what was on the stack", "lit ab; len; set 2; unit; return", 2, "16: 0"},
		{"locals ahead of the stack", "lit ab; lit c; set 0; set 1; unit; return", 3, "16: 0 1 99 2 97 98"},
		{"the stack from below", "lit ab; lit c; set 0; set 1; unit; return", 2, "16: 0 2 97 98 1 99"},
	} {
		trial := plainTrial(c.what, running(bodyOf(tyUnit, c.code, tyText, tyText, tyInt)))
		trial.half, trial.force = 16, []int{c.at}
		got := wantRunAsRaw(t, trial)
		if got.Kind != impl.OutHalt || got.Moves != 1 {
			t.Errorf("%s: %s", c.what, sayOutcome(got))
		}
		trial.fuel = c.at + 1
		if used := sayUsed(trial.run().Heap); used != c.used {
			t.Errorf("%s: %q, not %q", c.what, used, c.used)
		}
	}
	// Where a frame waits, what is set is that at its call, not that behind it.
	waits := bodyOf(tyText, "lit ab; set 0; close 1; unit; call; set 2; int 4; set 2; get 0; return", tyText, tyText, tyInt)
	trial := plainTrial("a frame that waits", running(waits, funBlock(tyUnit, tyInt, "int 7; return")))
	trial.half, trial.force, trial.fuel = 16, []int{5}, 6
	if used := sayUsed(wantRunAsRaw(t, trial).Heap); used != "16: 0 2 97 98 1" {
		t.Errorf("a frame that waits: %q", used)
	}
}

// deepBlock goes down with ints and texts in its locals and on its stack, and leaves something at each call that nobody reaches.
func deepBlock() impl.Block {
	b := funBlock(tyInt, tyInt, "lit xxxxxxxxx; len; set 0; lit k; set 1; arg; set 2; arg; if out; int 1; self; arg; int 1; sub; call; add; get 1; len; add; get 2; add; return; out: int 0; return")
	b.Locals = []impl.Ty{tyInt, tyText, tyInt}
	return b
}

// TestManyRoots: more than a call of Collect takes. With each half there is the same end, or no room.
func TestManyRoots(t *testing.T) {
	p := running(bodyOf(tyInt, "close 1; int 280; call; return"), deepBlock())
	full := wantEnd(t, plainTrial("many roots", p), impl.OutHalt, 0, "39900", 4+280*22+11)
	moves := map[bool]int{}
	for _, half := range []int{562, 563, 564, 565, 566, 570, 571, 572, 573, 574, 575, 600, 700, 1000, 2000, 3000, 3370, 3371, 3372, 3373, 3374, 3375, 4000} {
		for _, force := range [][]int{nil, {3000}, {3900}, {3980, 4100}, {500, 2500}} {
			c := plainTrial(fmt.Sprint("half ", half, ", force ", force), p)
			c.half, c.force = half, force
			got := wantRunAsRaw(t, c)
			moves[got.Moves > len(force)]++
			if got.Kind != impl.OutMemory && !sameButHeap(got, full) || (got.Kind == impl.OutMemory) != (half < 572) {
				t.Errorf("%s: %s", c.what, sayOutcome(got))
			}
		}
	}
	if moves[true] < 20 || moves[false] < 20 {
		t.Error("the test's own halves:", moves)
	}
}

// endings are trials that end in each way there is, with some dozens of steps and things in the heap.
func endings() []trial {
	busy := "lit ab; set 0; get 0; lit c; cat; set 1; get 0; get 1; pair; ref; read; snd; len; set 2; "
	body := func(code string) impl.Block { return bodyOf(tyText, code, tyText, tyText, tyInt, tyUnit) }
	thrower := funBlock(tyText, tyText, "lit u; set 0; get 0; arg; cat; len; raise")
	thrower.Locals = []impl.Ty{tyText}
	world := impl.World{Ticks: 9, Draws: []int{3, 5}, Store: worldOfKeys(1, 2).Store}
	list := []trial{
		plainTrial("it halts", running(body(busy+"get 1; return"))),
		plainTrial("it raises", running(body(busy+"get 2; raise"))),
		plainTrial("no fuel", running(body(busy+"get 1; return"))),
		plainTrial("no fuel ahead of the end", running(body(busy+"get 1; return"))),
		plainTrial("too deep", running(body(busy+"close 1; get 1; call; return"), funBlock(tyText, tyText, "self; lit a; call; return"))),
		plainTrial("no room", running(body(busy+"get 1; close 1; get 1; call; cat; return"), funBlock(tyText, tyText, "self; arg; arg; cat; call; return"))),
		plainTrial("no room for a text", running(body("lit xxxxxxxxxxxx; set 0; lit ab; return"))),
		plainTrial("foreign calls", running(body(busy+"foreign 1; foreign 2; get 2; foreign 4; set 3; get 1; foreign 0; set 3; get 1; return"))),
		plainTrial("a raise that is taken", running(body(busy+"try out; get 0; get 1; close 1; get 0; call; cat; cat; done; return; out: set 2; get 1; return"), thrower)),
	}
	list[2].fuel, list[3].fuel, list[6].half = 9, 15, 16
	list[5].half, list[4].half = 200, 700
	for i := range list {
		list[i].w = world
	}
	return list
}

func TestEndings(t *testing.T) {
	for i, want := range []impl.Outcome{
		{Kind: impl.OutHalt, Text: []byte(`"abc"`), Steps: 16}, {Kind: impl.OutRaise, N: 3, Steps: 16}, {Kind: impl.OutFuel, Steps: 9}, {Kind: impl.OutFuel, Steps: 15},
		{Kind: impl.OutDeep, Steps: 14 + 3*300}, {Kind: impl.OutMemory, Steps: 18 + 5*5 + 4}, {Kind: impl.OutMemory, Steps: 3}, {Kind: impl.OutHalt, Text: []byte(`"abc"`), Steps: 24}, {Kind: impl.OutHalt, Text: []byte(`"abc"`), Steps: 30},
	} {
		c := endings()[i]
		got := wantRunAsRaw(t, c)
		if got.Kind != want.Kind || got.N != want.N || !sameText(got.Text, want.Text) || got.Steps != want.Steps {
			t.Errorf("%s: %s", c.what, sayOutcome(got))
		}
	}
}

// TestForce: a collection at each of so many steps, if there is another step; it changes nothing else.
func TestForce(t *testing.T) {
	for _, c := range endings() {
		free := c.run()
		steps := free.Steps
		all := make([]int, min(steps, 1000))
		for i := range all {
			all[i] = i
		}
		for _, f := range []struct {
			force []int
			moves int
		}{
			{nil, 0}, {[]int{0}, 1}, {[]int{1}, 1}, {[]int{steps - 1}, 1}, {[]int{steps}, 0}, {[]int{steps + 1}, 0}, {[]int{-1}, 0}, {[]int{1 << 62, -1 << 63}, 0},
			{[]int{2, 2, 2}, 1}, {[]int{0, 0, 1, 1}, 2}, {[]int{2, 0, 1}, 3}, {[]int{steps + 5, 1, -5, 0, 1, steps - 1}, 3}, {all, len(all)}, {slices.Repeat([]int{1}, 1000), 1}, {[]int{1, 1 << 32, 2 + 1<<32}, 1},
		} {
			c.force = f.force
			got := wantRunAsRaw(t, c)
			if free.Moves == 0 && got.Moves != f.moves || !sameButHeap(got, free) {
				t.Errorf("%s, force %.40v: %d moves, not %d; %s", c.what, fmt.Sprint(f.force), got.Moves, f.moves, sayOutcome(got))
			}
		}
	}
}

// TestForceAndMore: forced collections are counted beside those for want of room, of which there may be less then.
func TestForceAndMore(t *testing.T) {
	p := running(bodyOf(tyInt, "lit xxxxxxxxx; len; set 0; lit xxxxxxxxx; len; set 0; lit xxxxxxxxx; len; set 0; lit xxxxxxxxx; len; return", tyInt))
	for _, f := range []struct {
		force []int
		moves int
	}{{nil, 3}, {[]int{0}, 4}, {[]int{3}, 3}, {[]int{1}, 4}, {[]int{3, 6, 9}, 3}, {[]int{2, 5, 8}, 3}, {[]int{4}, 4}, {[]int{11}, 4}, {[]int{12}, 3}} {
		c := plainTrial(fmt.Sprint("force ", f.force), p)
		c.half, c.force = 16, f.force
		if got := wantEnd(t, c, impl.OutHalt, 0, "9", 12); got.Moves != f.moves {
			t.Errorf("%s: %d moves, not %d", c.what, got.Moves, f.moves)
		}
	}
}

// wantFuelAtTheEnd looks whether fuel runs out at the step ahead of the end, and not at it; all until then is as with more.
func wantFuelAtTheEnd(t *testing.T, run func(t *testing.T, c trial) impl.Outcome) {
	t.Helper()
	for _, c := range endings() {
		if c.fuel < impl.MaxFuel {
			continue
		}
		full := run(t, c)
		for _, fuel := range []int{0, 1, 2, full.Steps / 2, full.Steps - 2, full.Steps - 1, full.Steps, full.Steps + 1, impl.MaxFuel - 1} {
			c.fuel = fuel
			got := run(t, c)
			if fuel >= full.Steps {
				if !sameOutcome(got, full) {
					t.Errorf("%s, fuel %d: %s", c.what, fuel, sayOutcome(got))
				}
				continue
			}
			if got.Kind != impl.OutFuel || got.Steps != fuel || got.N != 0 || len(got.Text) != 0 || !begins(got.World.Trace, full.World.Trace) {
				t.Errorf("%s, fuel %d: %s", c.what, fuel, sayOutcome(got))
			}
		}
	}
}

// fuelTrials are the first as long as can be, and one that halts. Two calls a frame, so that there are more steps than fuel, but never too many frames.
func fuelTrials() (trial, trial) {
	tree := funBlock(tyInt, tyInt, "arg; if out; self; arg; int 1; sub; call; self; arg; int 1; sub; call; add; return; out: int 1; return")
	program := func(depth int) impl.Program {
		return running(bodyOf(tyInt, fmt.Sprint("close 1; int ", depth, "; call; return")), tree)
	}
	return plainTrial("as much as there may be", program(20)), plainTrial("nearly as much", program(11))
}

// stepsOfATree are those of the second one of fuelTrials.
const stepsOfATree = 4 + 2047*14 + 2048*4

func TestFuel(t *testing.T) {
	wantFuelAtTheEnd(t, wantRunAsRaw)
	c := plainTrial("no fuel at all", running(bodyOf(tyUnit, "unit; return")))
	c.fuel, c.force = 0, []int{0}
	wantHeap(t, c.what, wantEnd(t, c, impl.OutFuel, 0, "", 0).Heap, "0", "")
	most, less := fuelTrials()
	wantEnd(t, most, impl.OutFuel, 0, "", impl.MaxFuel)
	wantEnd(t, less, impl.OutHalt, 0, "2048", stepsOfATree)
}
