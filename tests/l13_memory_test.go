package tests

import (
	"fmt"
	"slices"
	"sync"
	"testing"

	"loop.example/g00293/impl"
)

// memoryTrials are of all kinds of ends, and such as are refused.
func memoryTrials() []trial {
	list := endings()
	add := func(what string, turn func(c *trial)) {
		c := endings()[0]
		c.what, c.p = what, copyProgram(c.p)
		turn(&c)
		list = append(list, c)
	}
	add("no such half", func(c *trial) { c.half = 15 })
	add("no such world", func(c *trial) { c.w = worldOfKeys(2, 1) })
	add("an event", func(c *trial) { c.w = fullWorld() })
	add("no such fuel", func(c *trial) { c.fuel = -1 })
	add("too many force", func(c *trial) { c.force = make([]int, 1001) })
	add("no such program", func(c *trial) { c.p.Blocks[0].Code[0].Op = 99 })
	add("not granted", func(c *trial) { c.p, c.grants = drawing5(), []int{1} })
	add("no room behind many collections", func(c *trial) {
		c.p, c.half, c.force = running(bodyOf(tyInt, "close 1; int 280; call; return"), deepBlock()), 500, []int{5, 3, 800, 100}
	})
	add("many collections", func(c *trial) {
		c.p, c.half, c.force = running(bodyOf(tyInt, "close 1; int 280; call; return"), deepBlock()), 600, []int{5, 3, 800, 100}
	})
	add("a long text", func(c *trial) {
		code, _ := treeOf(7, 60)
		c.p = running(bodyOf(tyData(2), code+"get 0; return", tyData(2)))
	})
	for seed := range 70 {
		w := &walk{state: uint64(seed)}
		p := w.someAccepted(1 + w.below(5))
		list = append(list, trial{what: fmt.Sprint("seed ", seed), p: p, half: 16 + w.below(100), grants: allCaps, w: w.runWorld(), fuel: w.below(400), force: w.someForce(40)})
	}
	return list
}

// roomy answers c in memory of its own, with filled room behind all lists.
func (c trial) roomy() trial {
	c.p, c.grants, c.w, c.force = roomyProgram(c.p), withSpare(c.grants, spareWord), roomyWorld(c.w), withSpare(c.force, spareWord)
	return c
}

func isSpareWord(n int) bool { return n == spareWord }

// trial enrols all lists that c has.
func (r *roll) trial(c trial) {
	r.program(c.p)
	enrol(r, c.grants, isSpareWord)
	r.world(c.w)
	enrol(r, c.force, isSpareWord)
}

func (r *roll) outcome(o impl.Outcome) {
	r.text(o.Text)
	r.world(o.World)
	r.heap(o.Heap)
}

func copyOutcome(o impl.Outcome) impl.Outcome {
	o.Text, o.World, o.Heap = slices.Clone(o.Text), copyWorld(o.World), roomyHeap(o.Heap)
	return o
}

// spoilOutcome writes over all that can be reached by o.
func spoilOutcome(o impl.Outcome) {
	scribble(o.Text)
	spoilWorld(o.World)
	scribbleHeap(o.Heap)
}

// bothRuns are a run of the program and one of its bytes, if it has any.
func (c trial) bothRuns() []impl.Outcome {
	list := []impl.Outcome{c.run()}
	if b, ok := impl.CodeBytes(c.p); ok {
		list = append(list, impl.RunBytes(roomy(string(b)), c.half, c.grants, c.w, c.fuel, c.force))
	}
	return list
}

// wantMemoryOfItsOwn looks at runs of c that must all end alike: nothing is written into an argument nor behind its lists, what
// lies there is neither read nor handed out, and no two lists of what is answered are one, nor one of the arguments'.
func wantMemoryOfItsOwn(t *testing.T, c trial, runs func(c trial) []impl.Outcome) {
	t.Helper()
	plain := copyOutcome(runs(c)[0])
	arg := c.roomy()
	answers := runs(arg)
	all := newRoll()
	all.trial(arg)
	if all.spoilt || !sameProgram(arg.p, c.p) || !sameWorld(arg.w, c.w) || !slices.Equal(arg.grants, c.grants) || !slices.Equal(arg.force, c.force) {
		t.Errorf("%s: an argument was changed", c.what)
	}
	for _, got := range answers {
		if !sameOutcome(got, plain) {
			t.Errorf("%s: what lies behind a list was read: %s", c.what, sayOutcome(got))
		}
		if !noSpareBehind(got.World) || slices.Contains(got.Heap.Words[:cap(got.Heap.Words)], spareWord) || slices.Contains(got.Heap.Log[:cap(got.Heap.Log)], spareAccess) || slices.Contains(got.Text[:cap(got.Text)], spareByte) {
			t.Errorf("%s: what lies behind a list was handed out", c.what)
		}
		all.outcome(got)
	}
	if all.shared {
		t.Errorf("%s: lists that share memory", c.what)
	}
	spoilProgram(arg.p)
	spoilWorld(arg.w)
	for _, list := range [][]int{arg.grants, arg.force} {
		for i := range list {
			list[i] = spareWord
		}
	}
	for i, got := range answers {
		if !sameOutcome(got, plain) {
			t.Errorf("%s: the answer changes with an argument, or with another answer", c.what)
		}
		if spoilOutcome(got); i == 0 && !sameOutcome(runs(c)[0], plain) {
			t.Errorf("%s: an answer was kept", c.what)
		}
	}
}

func TestRunHasMemoryOfItsOwn(t *testing.T) {
	for _, c := range memoryTrials() {
		wantMemoryOfItsOwn(t, c, func(c trial) []impl.Outcome { return append(c.bothRuns(), c.run()) })
	}
}

// TestRunBytesChangesNoBytes: nor the room behind them.
func TestRunBytesChangesNoBytes(t *testing.T) {
	for _, c := range memoryTrials() {
		b, _ := impl.CodeBytes(c.p)
		for _, size := range []int{len(b), max(0, len(b)-1), 0} {
			arg := roomy(string(b[:size]))
			got := impl.RunBytes(arg, c.half, c.grants, c.w, c.fuel, c.force)
			if want := c.run(); size > 0 && size == len(b) && !sameOutcome(got, want) || size < len(b) && !sameOutcome(got, impl.Outcome{}) {
				t.Errorf("%s, %d bytes: %s", c.what, size, sayOutcome(got))
			}
			wantRoomy(t, c.what, arg, string(b[:size]))
		}
	}
}

// TestRunOfPartsThatShare: a program whose blocks and types are one list, and a world of one list with another.
func TestRunOfPartsThatShare(t *testing.T) {
	types := []impl.Ty{tyInt, tyInt}
	pair := impl.Ty{Kind: impl.TyPair, Args: types}
	b := impl.Block{Env: types, Locals: types, Arg: tyInt, Res: pair, Code: codeOf("env 0; set 0; arg; set 1; get 0; get 1; pair; return")}
	p := impl.Program{Blocks: []impl.Block{{Res: pair, Locals: types, Code: codeOf("int 3; int 4; close 1; int 5; call; return")}, b, b}}
	numbers := []int{7, 8, 9}
	c := plainTrial("parts that share", p)
	c.w, c.force, c.grants = impl.World{Draws: numbers}, numbers, numbers
	got := wantEnd(t, c, impl.OutHalt, 0, "(3, 5)", 14)
	if got.Moves != 3 || !slices.Equal(numbers, []int{7, 8, 9}) {
		t.Error("parts that share:", got.Moves, numbers)
	}
	all := newRoll()
	enrol(all, numbers, isSpareWord)
	if all.outcome(got); all.shared {
		t.Error("parts that share: the draws are an argument's")
	}
}

// wantNothingKept looks whether a call does the same however many others were made ahead of it.
func wantNothingKept[T any](t *testing.T, seed uint64, list []T, run func(c T) impl.Outcome) {
	t.Helper()
	var first []impl.Outcome
	for _, c := range list {
		first = append(first, copyOutcome(run(c)))
	}
	w := &walk{state: seed}
	for range 1500 {
		i := w.below(len(list))
		got := run(list[i])
		if !sameOutcome(got, first[i]) {
			t.Fatalf("call %d: %s\nnot %s", i, sayOutcome(got), sayOutcome(first[i]))
		}
		if w.below(3) == 0 {
			spoilOutcome(got)
		}
	}
}

func TestRunKeepsNothing(t *testing.T) {
	wantNothingKept(t, 136, memoryTrials(), trial.run)
}

// wantSameAtOnce looks whether calls do the same where many are made at once.
func wantSameAtOnce[T any](t *testing.T, list []T, run func(c T) impl.Outcome) {
	t.Helper()
	var first []impl.Outcome
	for _, c := range list {
		first = append(first, run(c))
	}
	var all sync.WaitGroup
	wrong := make([]int, 8)
	for worker := range wrong {
		all.Go(func() {
			for i, c := range list {
				if !sameOutcome(run(c), first[i]) {
					wrong[worker]++
				}
			}
		})
	}
	all.Wait()
	if !filled(wrong, 0) {
		t.Error("wrong answers:", wrong)
	}
}

func TestRunByManyAtOnce(t *testing.T) {
	wantSameAtOnce(t, memoryTrials(), trial.run)
}
