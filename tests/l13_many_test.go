package tests

import (
	"fmt"
	"slices"
	"strconv"
	"strings"
	"testing"

	"loop.example/g00293/impl"
)

// The raw machine below runs code with values that know their types, which it never asks of a state; of these it asks alone
// which locals are set. How it ends it tells by a panic.

type rawSlot struct {
	ty impl.Ty
	v  int
}

type rawFrame struct {
	block  int
	at     int
	fun    rawSlot
	arg    rawSlot
	locals []rawSlot
	stack  []rawSlot
	tries  []impl.Try
}

type rawMachine struct {
	p       impl.Program
	states  [][]impl.State
	h       impl.Heap
	endless bool // the heap has no end, and no Log
	scene   *rawScene
	frames  []*rawFrame
	steps   int
	moves   int
}

// A rawHalt is how a run of the raw machine ended.
type rawHalt struct {
	kind int
	n    int
	text string
}

// rawRun tells what Run must, by another way.
func rawRun(p impl.Program, half int, grants []int, w impl.World, fuel int, force []int) impl.Outcome {
	if half < 16 || half > 4096 || !rawWorldOk(w) || len(w.Trace) != 0 || fuel < 0 || fuel > 60000 || len(force) > 1000 || !impl.Check(p, grants) {
		return impl.Outcome{}
	}
	m := &rawMachine{p: p, scene: rawSceneOf(w), h: impl.Heap{Words: make([]int, 2*half), Half: half, Next: 1}}
	for n := range p.Blocks {
		states, _ := impl.States(p, n)
		m.states = append(m.states, states)
	}
	return m.run(fuel, force)
}

func (m *rawMachine) run(fuel int, force []int) (got impl.Outcome) {
	m.enter(0, rawSlot{funOf(m.p.Blocks[0]), 0}, rawSlot{tyUnit, 0})
	defer func() {
		why := recover()
		halt, is := why.(rawHalt)
		if !is {
			panic(why)
		}
		got = impl.Outcome{Kind: halt.kind, N: halt.n, Text: []byte(halt.text), World: m.scene.world(), Steps: m.steps, Heap: m.h, Moves: m.moves}
	}()
	for m.steps < fuel {
		if slices.Contains(force, m.steps) {
			m.collect()
		}
		m.steps++
		m.step(m.frames[len(m.frames)-1])
	}
	panic(rawHalt{kind: impl.OutFuel})
}

func funOf(b impl.Block) impl.Ty { return tyOf(impl.TyFun, b.Arg, b.Res) }

// enter puts a frame behind all others.
func (m *rawMachine) enter(block int, fun rawSlot, arg rawSlot) {
	f := &rawFrame{block: block, fun: fun, arg: arg}
	for _, ty := range m.p.Blocks[block].Locals {
		f.locals = append(f.locals, rawSlot{ty, 0})
	}
	m.frames = append(m.frames, f)
}

// slots are all that a collection has as roots.
func (m *rawMachine) slots() []*rawSlot {
	var list []*rawSlot
	for _, f := range m.frames {
		list = append(list, &f.fun, &f.arg)
		for i, set := range m.states[f.block][f.at].Set {
			if set {
				list = append(list, &f.locals[i])
			}
		}
		for i := range f.stack {
			list = append(list, &f.stack[i])
		}
	}
	return list
}

func (m *rawMachine) collect() {
	m.moves++
	slots := m.slots()
	var roots []impl.Root
	for _, slot := range slots {
		roots = append(roots, impl.Root{Ty: slot.ty, V: slot.v})
	}
	h, values, ok := rawMoved(m.p, m.h, roots)
	if !ok {
		panic("the test's own collection")
	}
	m.h = h
	for i, slot := range slots {
		slot.v = values[i]
	}
}

// touch answers the word at a place, which must have been taken, and puts the access behind the Log.
func (m *rawMachine) touch(at int) *int {
	if at < m.h.Low || at >= m.h.Next {
		panic("the test's own access")
	}
	if !m.endless {
		m.h.Log = append(m.h.Log, impl.Access{At: at, Low: m.h.Low, High: m.h.Next})
		m.h.Log = m.h.Log[max(0, len(m.h.Log)-4000):]
	}
	return &m.h.Words[at]
}

func (m *rawMachine) bytes(at int) string {
	var text []byte
	for i := range *m.touch(at) {
		text = append(text, byte(*m.touch(at + 1 + i)))
	}
	return string(text)
}

// object takes words for an object and stores numbers ahead, then parts; the last part first.
func (m *rawMachine) object(numbers []int, parts []rawSlot) int {
	size := len(numbers) + len(parts)
	if m.endless {
		m.h.Words = append(m.h.Words, make([]int, size)...)
	}
	full := func() bool { return !m.endless && m.h.Next+size > m.h.Low+m.h.Half }
	if full() {
		m.collect()
	}
	if full() {
		panic(rawHalt{kind: impl.OutMemory})
	}
	at := m.h.Next
	m.h.Next += size
	for i := range size {
		m.h.Words[at+i] = 0
	}
	for i, n := range numbers {
		*m.touch(at + i) = n
	}
	for i := size - 1; i >= len(numbers); i-- {
		*m.touch(at + i) = parts[i-len(numbers)].v
	}
	return at
}

func textWords(text string) []int {
	words := []int{len(text)}
	for _, b := range []byte(text) {
		words = append(words, int(b))
	}
	return words
}

// rawMade answers the type and the first words of what an op makes, and how many parts it has; false: it makes nothing.
func (m *rawMachine) rawMade(n impl.Ins, f *rawFrame) (impl.Ty, []int, int, bool) {
	top := func(below int) impl.Ty { return f.stack[len(f.stack)-1-below].ty }
	switch n.Op {
	case impl.InLit:
		return tyText, textWords(string(n.Lit)), 0, true
	case impl.InPair:
		return tyOf(impl.TyPair, top(1), top(0)), nil, 2, true
	case impl.InRef:
		return inRef(top(0)), nil, 1, true
	case impl.InCon:
		return tyData(n.A), []int{n.B}, len(m.p.Layouts[n.A].Cons[n.B]), true
	case impl.InClose:
		return funOf(m.p.Blocks[n.A]), []int{n.A}, len(m.p.Blocks[n.A].Env), true
	}
	return impl.Ty{}, nil, 0, false
}

// reckoned answers what an op makes of two ints.
func reckoned(op int, a int, b int) int {
	is := map[bool]int{true: 1}
	return []int{a + b, a - b, a * b, is[a < b], is[a == b]}[op-impl.InAdd] << 1 >> 1
}

func (m *rawMachine) step(f *rawFrame) {
	b := m.p.Blocks[f.block]
	n := b.Code[f.at]
	pop := func() rawSlot {
		slot := f.stack[len(f.stack)-1]
		f.stack = f.stack[:len(f.stack)-1]
		return slot
	}
	push := func(ty impl.Ty, v int) { f.stack = append(f.stack, rawSlot{ty, v}) }
	next := f.at + 1
	if ty, numbers, parts, ok := m.rawMade(n, f); ok {
		// The frame's slots may change while it is made.
		at := m.object(numbers, f.stack[len(f.stack)-parts:])
		f.stack = f.stack[:len(f.stack)-parts]
		push(ty, at)
		f.at = next
		return
	}
	switch n.Op {
	case impl.InUnit:
		push(tyUnit, 0)
	case impl.InInt:
		push(tyInt, n.A)
	case impl.InArg:
		push(f.arg.ty, f.arg.v)
	case impl.InEnv:
		push(b.Env[n.A], *m.touch(f.fun.v + 1 + n.A))
	case impl.InSelf:
		push(f.fun.ty, f.fun.v)
	case impl.InGet:
		push(f.locals[n.A].ty, f.locals[n.A].v)
	case impl.InSet:
		f.locals[n.A] = pop()
	case impl.InCat:
		both := m.bytes(f.stack[len(f.stack)-2].v) + m.bytes(f.stack[len(f.stack)-1].v)
		at := m.object(textWords(both[:min(60, len(both))]), nil)
		pop()
		pop()
		push(tyText, at)
	case impl.InLen:
		push(tyInt, *m.touch(pop().v))
	case impl.InFst, impl.InRead:
		from := pop()
		push(from.ty.Args[0], *m.touch(from.v))
	case impl.InSnd:
		from := pop()
		push(from.ty.Args[1], *m.touch(from.v + 1))
	case impl.InWrite:
		what := pop()
		*m.touch(pop().v) = what.v
		push(tyUnit, 0)
	case impl.InCase:
		at := pop().v
		con := *m.touch(at)
		for i, ty := range m.p.Layouts[n.A].Cons[con] {
			push(ty, *m.touch(at + 1 + i))
		}
		next = n.To[con]
	case impl.InJump:
		next = n.A
	case impl.InIf:
		if pop().v == 0 {
			next = n.A
		}
	case impl.InTry:
		f.tries = append(f.tries, impl.Try{To: n.A, Height: len(f.stack)})
	case impl.InDone:
		f.tries = f.tries[:len(f.tries)-1]
	case impl.InForeign:
		m.foreign(f, n.A)
	case impl.InCall, impl.InReturn, impl.InRaise:
		m.flow(f, n.Op)
		return
	default:
		y, x := pop(), pop()
		push(tyInt, reckoned(n.Op, x.v, y.v))
	}
	f.at = next
}

// flow does what goes from frame to frame. A frame that waits stays at its call.
func (m *rawMachine) flow(f *rawFrame, op int) {
	last := len(f.stack) - 1
	top := f.stack[last]
	f.stack = f.stack[:last]
	switch op {
	case impl.InCall:
		fun := f.stack[last-1]
		f.stack = f.stack[:last-1]
		if len(m.frames) == 300 {
			panic(rawHalt{kind: impl.OutDeep})
		}
		m.enter(*m.touch(fun.v), fun, top)
	case impl.InReturn:
		m.frames = m.frames[:len(m.frames)-1]
		if len(m.frames) == 0 {
			text := rawShow(m.p, m.h, top, 1)
			panic(rawHalt{kind: impl.OutHalt, text: text[:min(30000, len(text))]})
		}
		ahead := m.frames[len(m.frames)-1]
		ahead.stack = append(ahead.stack, top)
		ahead.at++
	case impl.InRaise:
		for i := len(m.frames) - 1; i >= 0; i-- {
			if g := m.frames[i]; len(g.tries) > 0 {
				try := g.tries[len(g.tries)-1]
				g.tries = g.tries[:len(g.tries)-1]
				g.stack = append(g.stack[:try.Height], top)
				g.at = try.To
				m.frames = m.frames[:i+1]
				return
			}
		}
		panic(rawHalt{kind: impl.OutRaise, n: top.v})
	}
}

// foreign: where the trace is full the call is none; its answer is 0.
func (m *rawMachine) foreign(f *rawFrame, kind int) {
	args := f.stack[len(f.stack)-[]int{1, 0, 1, 1, 2}[kind]:]
	f.stack = f.stack[:len(f.stack)-len(args)]
	a, b, lit := 0, 0, ""
	if kind == impl.CapPrint {
		lit = m.bytes(args[0].v)
	} else if len(args) > 0 {
		a = args[0].v
	}
	if kind == impl.CapPut {
		b = args[1].v
	}
	res, _ := m.scene.foreign(kind, a, b, []byte(lit))
	f.stack = append(f.stack, rawSlot{[]impl.Ty{tyUnit, tyInt, tyInt, tyInt, tyUnit}[kind], res})
}

// rawShow shows a value that is within so many refs, datas and pairs, with itself, if it is one.
func rawShow(p impl.Program, h impl.Heap, slot rawSlot, level int) string {
	switch slot.ty.Kind {
	case impl.TyUnit:
		return "()"
	case impl.TyInt:
		return strconv.Itoa(slot.v)
	case impl.TyFun:
		return "fn"
	}
	types, _ := rawWordTypes(p, h, slot.ty, slot.v)
	words := h.Words[slot.v : slot.v+len(types)]
	ahead := ""
	switch slot.ty.Kind {
	case impl.TyText:
		var text []byte
		for _, b := range words[1:] {
			text = append(text, byte(b))
		}
		return `"` + string(text) + `"`
	case impl.TyRef:
		ahead = "ref"
	case impl.TyData:
		ahead = "#" + strconv.Itoa(words[0])
		types, words = types[1:], words[1:]
	}
	if level > 8 {
		return ".."
	}
	var parts []string
	for i, ty := range types {
		parts = append(parts, rawShow(p, h, rawSlot{ty, words[i]}, level+1))
	}
	if len(parts) == 0 {
		return ahead
	}
	return ahead + "(" + strings.Join(parts, ", ") + ")"
}

func sameOutcome(a impl.Outcome, b impl.Outcome) bool {
	return sameButHeap(a, b) && a.Moves == b.Moves && sameHeap(a.Heap, b.Heap)
}

// sameButHeap says whether all is the same that no collection changes.
func sameButHeap(a impl.Outcome, b impl.Outcome) bool {
	return a.Kind == b.Kind && a.N == b.N && sameText(a.Text, b.Text) && sameWorld(a.World, b.World) && a.Steps == b.Steps
}

func sayOutcome(o impl.Outcome) string {
	words := o.Heap.Words[:min(100, len(o.Heap.Words))]
	log := o.Heap.Log[max(0, len(o.Heap.Log)-20):]
	return fmt.Sprintf("kind %d, n %d, text %.300q, %d steps, %d moves, heap of %d from %d to %d: %v .., %d accesses: .. %v, world: %s",
		o.Kind, o.N, o.Text, o.Steps, o.Moves, o.Heap.Half, o.Heap.Low, o.Heap.Next, words, len(o.Heap.Log), log, sayWorld(o.World))
}

// A trial is what Run is called with.
type trial struct {
	what   string
	p      impl.Program
	half   int
	grants []int
	w      impl.World
	fuel   int
	force  []int
}

func (c trial) run() impl.Outcome {
	return impl.Run(c.p, c.half, c.grants, c.w, c.fuel, c.force)
}

// wantPromised looks for what promise 13 says of an outcome.
func wantRunPromised(t *testing.T, c trial, o impl.Outcome) {
	t.Helper()
	if o.Kind == impl.OutRefused {
		if !sameOutcome(o, impl.Outcome{}) {
			t.Fatalf("%s: refused, but %s", c.what, sayOutcome(o))
		}
		return
	}
	if o.Kind < impl.OutHalt || o.Kind > impl.OutDeep || !impl.LogInside(o.Heap) || !impl.WorldOk(o.World) || o.Steps > c.fuel || !impl.Check(c.p, c.grants) {
		t.Fatalf("%s: %s", c.what, sayOutcome(o))
	}
	for _, event := range o.World.Trace {
		if !slices.Contains(c.grants, event.Cap) {
			t.Fatalf("%s: the event %v is not granted", c.what, event)
		}
	}
}

// wantRunAsRaw holds Run against the raw machine, and what comes against the promises; it answers what comes.
func wantRunAsRaw(t *testing.T, c trial) impl.Outcome {
	t.Helper()
	got, want := c.run(), rawRun(c.p, c.half, c.grants, c.w, c.fuel, c.force)
	if !sameOutcome(got, want) {
		t.Fatalf("%s: half %d, grants %v, fuel %d, force %v:\n%s\nnot %s\n%s", c.what, c.half, c.grants, c.fuel, c.force, sayOutcome(got), sayOutcome(want), sayBlocks(c.p))
	}
	wantRunPromised(t, c, got)
	calm := c
	if calm.force = nil; len(c.force) <= 1000 && !sameButHeap(got, calm.run()) {
		t.Fatalf("%s: half %d, fuel %d: forced by %v %s, else %s", c.what, c.half, c.fuel, c.force, sayOutcome(got), sayOutcome(calm.run()))
	}
	wantFreeAsRun(t, c, got)
	return got
}

// someForce are places at which there is a collection, in no order, some of them twice or where no step is made.
func (w *walk) someForce(steps int) []int {
	var force []int
	switch w.below(4) {
	case 0:
		return nil
	case 1:
		for i := range min(steps+2, 1000) {
			force = append(force, i)
		}
		return force
	}
	for range w.below(40) {
		force = append(force, w.below(steps+6)-3)
	}
	return force
}

// runWorld is a world without events.
func (w *walk) runWorld() impl.World {
	world := w.someWorld()
	world.Trace = nil
	return world
}

// wantManyRuns runs a program with several halves, fuels and forces, and counts how it ends.
func (w *walk) wantManyRuns(t *testing.T, what string, p impl.Program, count map[int]int) {
	t.Helper()
	c := trial{what: what, p: p, half: impl.MaxHalf, grants: allCaps, w: w.runWorld(), fuel: 2000}
	whole := wantRunAsRaw(t, c)
	count[whole.Kind]++
	for range 4 {
		c.half, c.fuel, c.force = 16+w.below(60), 2000, w.someForce(whole.Steps)
		if w.below(4) == 0 {
			c.fuel = w.below(whole.Steps + 2)
		}
		got := wantRunAsRaw(t, c)
		count[got.Kind]++
		if got.Moves > len(c.force) {
			count[-1]++
		}
		if got.Kind != impl.OutMemory && c.fuel == 2000 && !sameButHeap(got, whole) {
			t.Fatalf("%s: with %d words %s, with more %s", what, c.half, sayOutcome(got), sayOutcome(whole))
		}
	}
}

// wantCounted looks whether the test's own runs were such as they should be; -1 is for those with a collection for want of room.
func wantCounted(t *testing.T, count map[int]int, least map[int]int) {
	t.Helper()
	for kind, n := range least {
		if count[kind] < n {
			t.Errorf("the test's own runs: kind %d: %v", kind, count)
		}
	}
}

func TestManyDrawnPrograms(t *testing.T) {
	w := &walk{state: 131}
	count := map[int]int{}
	for i := range 900 {
		w.wantManyRuns(t, fmt.Sprint("program ", i), w.someAccepted(1+w.below(6)), count)
	}
	wantCounted(t, count, map[int]int{impl.OutHalt: 500, impl.OutRaise: 500, impl.OutMemory: 5, impl.OutFuel: 200, impl.OutDeep: 5})
}

// programOf is what is made of a text that can be compiled.
func programOf(text string) (impl.Program, bool) {
	s, _, _ := impl.Parse([]byte(text))
	term, code := impl.Infer(s)
	if code != impl.TypeWell {
		return impl.Program{}, false
	}
	whole, _ := impl.Mono(s.Datas, term)
	return impl.Gen(whole)
}

func TestManySourcesRun(t *testing.T) {
	w := &walk{state: 132}
	count := map[int]int{}
	w.wholesOf(t, 500, func(whole impl.Whole) {
		if p, ok := impl.Gen(whole); ok {
			w.wantManyRuns(t, sayLow(whole.Body), p, count)
		}
	})
	wantCounted(t, count, map[int]int{impl.OutHalt: 500, impl.OutRaise: 200, impl.OutMemory: 20, impl.OutFuel: 300, impl.OutDeep: 5})
}

// someBusy is the text of an int that comes of things in the heap, most of which nobody reaches any more.
func (w *walk) someBusy(depth int, ints []string) string {
	if depth == 0 {
		return pick(w, append(slices.Clone(ints), "1", "2", "tick"))
	}
	part := func(more ...string) string { return w.someBusy(depth-1, append(slices.Clone(ints), more...)) }
	name := fmt.Sprint("v", len(ints))
	switch w.below(14) {
	case 12:
		if w.below(4) == 0 {
			return bracket("raise", part())
		}
	case 0:
		return bracket("fst", bracket("pair", part(), part()))
	case 1:
		return bracket("len", bracket("cat", `"some"`, bracket("snd", bracket("pair", part(), `"more"`))))
	case 2:
		return bracket("match", bracket("Cons", part(), bracket("Cons", part(), "Nil")), "(Nil 0)", bracket("Cons", name, "rest", part(name)))
	case 3:
		return bracket("let", "c", bracket("ref", part()), bracket("let", "u", bracket("write", "c", part()), "(read c)"))
	case 4:
		return bracket(bracket("fn", name, part(name)), part())
	case 5:
		return bracket("let", name, part(), part(name))
	case 6:
		return bracket("let", "c", bracket("ref", bracket("pair", part(), `"held"`)), bracket("let", name, part(), bracket("add", name, bracket("fst", "(read c)"))))
	case 7:
		return bracket("try", bracket("fst", bracket("pair", part(), bracket("raise", part()))), name, part(name))
	case 8:
		return bracket("if", part(), part(), part())
	case 9:
		return bracket("let", "u", bracket("print", bracket("cat", `"at "`, `"it"`)), part())
	case 10:
		return bracket(bracket(bracket("fn", name, bracket("fn", "z", part(name, "z"))), part()), part())
	case 11:
		return bracket("len", bracket("cat", bracket("cat", `"twenty letters here."`, `"twenty letters here."`), `"and so many letters."`))
	}
	return bracket(pick(w, []string{"add", "sub", "mul", "less", "same"}), part(), part())
}

// someLoop is a text that does something busy again and again; a list, a text or frames that wait hold what came of it.
func (w *walk) someLoop() string {
	body, count := w.someBusy(1+w.below(4), []string{"n"}), fmt.Sprint(w.below(60))
	switch w.below(4) {
	case 0:
		return someData + bracket("rec", "f", "n", bracket("if", "(less n 1)", "0", bracket("add", body, "(f (sub n 1))")), bracket("f", count))
	case 1:
		return someData + bracket("rec", "f", "n", bracket("if", "(less n 1)", "Nil", bracket("let", "x", body, "(Cons x (f (sub n 1)))")), bracket("f", count))
	case 2:
		return someData + bracket("rec", "f", "n", bracket("fn", "l", bracket("if", "(less n 1)", "l", bracket(bracket("f", "(sub n 1)"), bracket("Cons", body, "l")))), bracket(bracket("f", count), "Nil"))
	}
	return someData + bracket("rec", "f", "n", bracket("if", "(less n 1)", `"."`, bracket("let", "t", "(f (sub n 1))", bracket("if", body, `(cat t "x")`, "t"))), bracket("pair", bracket("f", count), bracket("f", "3")))
}

// TestManyLoops: halves from as small as can be on, so that there are collections for want of room.
func TestManyLoops(t *testing.T) {
	w := &walk{state: 133}
	count := map[int]int{}
	for range 300 {
		text := w.someLoop()
		p, ok := programOf(text)
		if !ok {
			continue
		}
		c := trial{what: text, p: p, half: impl.MaxHalf, grants: allCaps, w: w.runWorld(), fuel: 6000}
		whole := wantRunAsRaw(t, c)
		count[whole.Kind]++
		for k := range 6 {
			c.half, c.force = 16+w.below(16<<k), w.someForce(whole.Steps)
			got := wantRunAsRaw(t, c)
			count[got.Kind]++
			if got.Kind != impl.OutMemory && !sameButHeap(got, whole) {
				t.Fatalf("%s: with %d words %s, with more %s", text, c.half, sayOutcome(got), sayOutcome(whole))
			}
			if c.force == nil && got.Moves > 1 {
				count[-1]++
			}
		}
	}
	wantCounted(t, count, map[int]int{impl.OutHalt: 400, impl.OutRaise: 20, impl.OutMemory: 200, -1: 100})
}

// TestManyTurnedRun: accepted programs with one thing or two turned; of those that are accepted still each run is as the words say.
func TestManyTurnedRun(t *testing.T) {
	w := &walk{state: 134}
	count := map[int]int{}
	for range 12000 {
		p := w.someAccepted(1 + w.below(4))
		for range 1 + w.below(2) {
			n := w.below(len(p.Blocks))
			p.Blocks[n] = w.turnedBlock(p.Blocks[n], len(p.Layouts))
		}
		p.Caps = rawCapsOf(p)
		c := trial{what: "turned", p: p, half: 16 + w.below(200), grants: allCaps, w: w.runWorld(), fuel: pick(w, []int{2000, 2000, w.below(40)}), force: w.someForce(60)}
		count[wantRunAsRaw(t, c).Kind]++
	}
	wantCounted(t, count, map[int]int{impl.OutRefused: 300, impl.OutHalt: 100, impl.OutRaise: 100, impl.OutFuel: 20})
}

// bentBytes are b with some bytes turned, left out, doubled or put elsewhere.
func (w *walk) bentBytes(b []byte) []byte {
	b = slices.Clone(b)
	for range 1 + w.below(3) {
		at := w.below(len(b))
		switch w.below(5) {
		case 0:
			b[at] = byte(w.below(256))
		case 1:
			b[at] = byte(w.below(34))
		case 2:
			b[at] += byte(w.below(3) - 1)
		case 3:
			b = slices.Delete(b, at, at+min(1, len(b)-1))
		default:
			b = slices.Insert(b, at, b[w.below(len(b))])
		}
	}
	return b
}

// TestBentBytes: whatever the bytes are, RunBytes is Run of what is read.
func TestBentBytes(t *testing.T) {
	w := &walk{state: 135}
	count := map[int]int{}
	for range 1500 {
		p := w.someAccepted(1 + w.below(4))
		b, ok := impl.CodeBytes(p)
		if !ok {
			continue
		}
		for k := range 12 {
			bent := b
			if k > 0 {
				bent = w.bentBytes(b)
			}
			c := trial{what: fmt.Sprint(bent), half: 16 + w.below(60), grants: allCaps, w: w.runWorld(), fuel: w.below(60), force: w.someForce(50)}
			c.p, _ = impl.CodeRead(bent)
			got := impl.RunBytes(bent, c.half, c.grants, c.w, c.fuel, c.force)
			if !sameOutcome(got, c.run()) || got.Kind != impl.OutRefused && !impl.CheckBytes(bent, c.grants) {
				t.Fatalf("%v: %s", bent, sayOutcome(got))
			}
			wantRunPromised(t, c, got)
			if k > 0 {
				count[got.Kind]++
			}
		}
	}
	wantCounted(t, count, map[int]int{impl.OutRefused: 3000, impl.OutHalt: 100, impl.OutRaise: 100, impl.OutFuel: 50})
}
