package tests

import (
	"fmt"
	"slices"
	"testing"

	"loop.example/g00293/impl"
)

// wantMoreFuel looks whether with more and more fuel the trace goes on, and what had ended ends alike.
func wantMoreFuel(t *testing.T, what string, fuels []int, run func(fuel int) impl.Outcome) {
	t.Helper()
	less := run(0)
	for _, fuel := range slices.Sorted(slices.Values(fuels)) {
		more := run(fuel)
		ok := sameOutcome(more, less)
		if less.Kind == impl.OutFuel {
			ok = begins(less.World.Trace, more.World.Trace) && more.Steps >= less.Steps && (more.Kind != impl.OutFuel || more.Steps == fuel)
		}
		if !ok {
			t.Fatalf("%s: with less fuel %s\nwith %d %s", what, sayOutcome(less), fuel, sayOutcome(more))
		}
		less = more
	}
}

// wantGreaterHeaps looks whether with a greater heap what did not end for want of room ends alike, and that without one, too.
func (w *walk) wantGreaterHeaps(t *testing.T, c trial, count map[int]int) {
	t.Helper()
	free := wantFreeAsRaw(t, c)
	var less impl.Outcome
	for half := impl.MinHalf; half <= impl.MaxHalf; half += 1 + w.below(half) {
		c.half, c.force = half, w.someForce(free.Steps)
		more := c.run()
		if less.Kind != impl.OutRefused && less.Kind != impl.OutMemory && !sameButHeap(less, more) {
			t.Fatalf("%s: with less room %s\nwith %d words %s", c.what, sayOutcome(less), half, sayOutcome(more))
		}
		wantFreeAsRun(t, c, more)
		count[more.Kind]++
		less = more
	}
	c.half, c.force = impl.MaxHalf, nil
	wantFreeAsRun(t, c, c.run())
}

func (c trial) fueled(fuel int) trial {
	c.fuel = fuel
	return c
}

// wantManyWays holds a program's runs against each other: without a heap, in heaps of every size, with force, with more and more fuel.
func (w *walk) wantManyWays(t *testing.T, what string, p impl.Program, count map[int]int) {
	t.Helper()
	c := trial{what: what, p: p, half: impl.MaxHalf, grants: allCaps, w: w.runWorld(), fuel: pick(w, []int{3000, 3000, 1 + w.below(100)})}
	w.wantGreaterHeaps(t, c, count)
	steps := c.free().Steps
	fuels := []int{1, 2, steps - 1, steps, steps + 1, steps + 500}
	for range 3 {
		fuels = append(fuels, w.below(steps+1))
	}
	fuels = slices.DeleteFunc(fuels, func(fuel int) bool { return fuel < 0 })
	wantMoreFuel(t, what, fuels, func(fuel int) impl.Outcome { return c.fueled(fuel).free() })
	c.half = impl.MinHalf + w.below(100)
	wantMoreFuel(t, fmt.Sprint(what, ": half ", c.half), fuels, func(fuel int) impl.Outcome { return c.fueled(fuel).run() })
}

func TestManyProgramsWithoutAHeap(t *testing.T) {
	w := &walk{state: 142}
	count := map[int]int{}
	for i := range 700 {
		w.wantManyWays(t, fmt.Sprint("program ", i), w.someAccepted(1+w.below(6)), count)
	}
	wantCounted(t, count, map[int]int{impl.OutHalt: 500, impl.OutRaise: 500, impl.OutFuel: 200, impl.OutDeep: 5})
}

func TestManySourcesWithoutAHeap(t *testing.T) {
	w := &walk{state: 143}
	count := map[int]int{}
	w.wholesOf(t, 250, func(whole impl.Whole) {
		if p, ok := impl.Gen(whole); ok {
			w.wantManyWays(t, sayLow(whole.Body), p, count)
		}
	})
	wantCounted(t, count, map[int]int{impl.OutHalt: 1000, impl.OutRaise: 500, impl.OutMemory: 20, impl.OutFuel: 200, impl.OutDeep: 10})
}

func TestManyLoopsWithoutAHeap(t *testing.T) {
	w := &walk{state: 144}
	count := map[int]int{}
	for range 200 {
		text := w.someLoop()
		if p, ok := programOf(text); ok {
			w.wantManyWays(t, text, p, count)
		}
	}
	wantCounted(t, count, map[int]int{impl.OutHalt: 500, impl.OutRaise: 20, impl.OutMemory: 300, impl.OutFuel: 50})
}

// TestManyTurnedWithoutAHeap: what is refused by one is refused by the other.
func TestManyTurnedWithoutAHeap(t *testing.T) {
	w := &walk{state: 145}
	count := map[int]int{}
	for range 6000 {
		p := w.someAccepted(1 + w.below(4))
		n := w.below(len(p.Blocks))
		p.Blocks[n] = w.turnedBlock(p.Blocks[n], len(p.Layouts))
		p.Caps = rawCapsOf(p)
		c := trial{what: "turned", p: p, half: impl.MaxHalf, grants: pick(w, [][]int{allCaps, allCaps, {0, 1}}), w: w.someWorld(), fuel: w.below(60) - 2}
		if w.below(3) > 0 {
			c.w.Trace = nil
		}
		got := wantFreeAsRaw(t, c)
		wantFreeAsRun(t, c, c.run())
		count[got.Kind]++
	}
	wantCounted(t, count, map[int]int{impl.OutRefused: 1000, impl.OutHalt: 100, impl.OutRaise: 100, impl.OutFuel: 100})
}

// A picture turns values of a heap into Vals with cells, by their types.
type picture struct {
	p     impl.Program
	h     impl.Heap
	cells []impl.Val
	known map[string]int // the cell of a ref's type and place
}

func (d *picture) val(ty impl.Ty, v int) impl.Val {
	got := impl.Val{Kind: ty.Kind}
	switch ty.Kind {
	case impl.TyUnit:
		return got
	case impl.TyInt:
		got.N = v
		return got
	case impl.TyRef:
		got.N = d.cell(ty, v)
		return got
	}
	types, _ := rawWordTypes(d.p, d.h, ty, v)
	words := d.h.Words[v : v+len(types)]
	switch ty.Kind {
	case impl.TyText:
		for _, b := range words[1:] {
			got.Text = append(got.Text, byte(b))
		}
		return got
	case impl.TyData, impl.TyFun:
		got.N, types, words = words[0], types[1:], words[1:]
	}
	for i, part := range types {
		got.List = append(got.List, d.val(part, words[i]))
	}
	return got
}

func (d *picture) cell(ty impl.Ty, v int) int {
	key := fmt.Sprint(string(impl.TySay(ty)), " at ", v)
	n, ok := d.known[key]
	if !ok {
		n = len(d.cells)
		d.known[key] = n
		d.cells = append(d.cells, impl.Val{})
		held := d.val(ty.Args[0], d.h.Words[v])
		d.cells[n] = held
	}
	return n
}

// wantShownAsVal looks whether what code leaves is shown by Run and RunFree as ShowVal shows it. The result must be a ref that
// is made last, so that it is the last word that was taken; false, where it is not sure to be.
func wantShownAsVal(t *testing.T, text string, p impl.Program) bool {
	t.Helper()
	c := plainTrial(text, p)
	got := c.run()
	if got.Kind != impl.OutHalt || got.Heap.Low != 0 {
		return false
	}
	d := &picture{p: p, h: got.Heap, known: map[string]int{}}
	v := d.val(p.Blocks[0].Res, got.Heap.Next-1)
	shown := impl.ShowVal(v, d.cells)
	if !sameText(shown, got.Text) || !sameText(shown, c.free().Text) || string(shown) != rawValShown(v, d.cells, 1) {
		t.Errorf("%s: %q, but Run says %q and RunFree %q", text, shown, got.Text, c.free().Text)
	}
	return true
}

// TestResultsAsVals: of sources that put what they make into a cell, which is the last object that is made.
func TestResultsAsVals(t *testing.T) {
	w := &walk{state: 146}
	count := 0
	for _, text := range []string{"1", `"ab"`, "(pair 1 (pair \"x\" (ref 2)))", "(Cons 1 (Cons 2 Nil))", "(fn x x)", "(let c (ref Nil) (let u (write c (Cons c Nil)) c))", "(pair (ref (ref 1)) (Body 4 \"q\"))", "(let c (ref 1) (pair c c))"} {
		if p, ok := programOf(someData + bracket("ref", text)); ok && wantShownAsVal(t, text, p) {
			count++
		}
	}
	if count < 6 {
		t.Error("the test's own sources:", count)
	}
	for range 500 {
		text := bracket("ref", bracket("pair", w.someMade(5), w.someMade(3)))
		if p, ok := programOf(someData + text); ok && wantShownAsVal(t, text, p) {
			count++
		}
	}
	if count < 300 {
		t.Error("the test's own drawn sources:", count)
	}
}

// someMade is the text of a value with many parts.
func (w *walk) someMade(depth int) string {
	if depth == 0 {
		return pick(w, []string{"1", "-7", `"t"`, `""`, "No", "Yes", "Ghost", "(fn x x)", "(write (ref 1) 2)"})
	}
	part := func() string { return w.someMade(depth - 1) }
	switch w.below(7) {
	case 0:
		return bracket("pair", part(), part())
	case 1:
		return bracket("ref", part())
	case 2:
		return bracket("Both", part(), part())
	case 3:
		return bracket("Half", part())
	case 4:
		return bracket("let", "c", bracket("ref", part()), "(pair c c)")
	case 5:
		return bracket("let", "c", part(), bracket("Cons", "c", bracket("Cons", "c", "Nil")))
	}
	return part()
}
