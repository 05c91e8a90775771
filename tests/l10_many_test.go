package tests

import (
	"fmt"
	"slices"
	"strings"
	"sync"
	"testing"

	"loop.example/g00293/impl"
)

// The raw functions below make code of all parts, also of those that nothing comes to, with names for places, locals and blocks;
// then what is not reached is left out, and what is left is numbered.

// A rawItem is an instruction, or a place (the label is not 0) that instructions go to.
type rawItem struct {
	ins   impl.Ins
	label int
	goes  []int // the labels that A or To are
	local *rawLocal
	block *rawBlock
}

type rawLocal struct {
	ty     impl.Ty
	number int
}

type rawBlock struct {
	arg, self int
	env       []int
	locals    map[int]*rawLocal
	is        impl.Block
	items     []rawItem
}

type rawGenerating struct {
	w      impl.Whole
	types  map[int]impl.Ty // of all numbers that are bound
	labels int
	blocks []impl.Block
}

// rawTypes answers the types at which the numbers in e are bound.
func rawTypes(layouts []impl.Layout, e impl.Low) map[int]impl.Ty {
	types := map[int]impl.Ty{}
	for _, p := range lowPlaces(&e) {
		switch p.Kind {
		case impl.ExFn:
			types[p.N] = p.Ty.Args[0]
		case impl.ExLet:
			types[p.N] = p.Kids[0].Ty
		case impl.ExTry:
			types[p.N] = tyInt
		case impl.ExRec:
			types[p.N], types[p.M] = p.Fun, p.Fun.Args[0]
		}
		for _, alt := range p.Alts {
			for i, v := range alt.Vars {
				types[v] = layouts[p.N].Cons[alt.Con][i]
			}
		}
	}
	return types
}

func one(op int, a int) []rawItem { return []rawItem{{ins: impl.Ins{Op: op, A: a}}} }

func (g *rawGenerating) label() int {
	g.labels++
	return g.labels
}

func leap(op int, labels ...int) []rawItem {
	return []rawItem{{ins: impl.Ins{Op: op}, goes: labels}}
}

func place(label int) []rawItem { return []rawItem{{label: label}} }

func (g *rawGenerating) store(b *rawBlock, number int) []rawItem {
	b.locals[number] = &rawLocal{ty: g.types[number]}
	return []rawItem{{ins: impl.Ins{Op: impl.InSet}, local: b.locals[number]}}
}

func (g *rawGenerating) variable(b *rawBlock, number int) []rawItem {
	switch {
	case b.locals[number] != nil:
		return []rawItem{{ins: impl.Ins{Op: impl.InGet}, local: b.locals[number]}}
	case number == b.arg:
		return one(impl.InArg, 0)
	case number == b.self:
		return one(impl.InSelf, 0)
	}
	return one(impl.InEnv, slices.Index(b.env, number))
}

func (g *rawGenerating) closure(b *rawBlock, body impl.Low, fun impl.Ty, arg int, self int) []rawItem {
	inner := &rawBlock{arg: arg, self: self, env: rawFreeOf(body, []int{arg, self}), locals: map[int]*rawLocal{}, is: impl.Block{Arg: fun.Args[0], Res: fun.Args[1]}}
	slices.Sort(inner.env)
	inner.env = slices.Compact(inner.env)
	var items []rawItem
	for _, n := range inner.env {
		inner.is.Env = append(inner.is.Env, g.types[n])
		items = append(items, g.variable(b, n)...)
	}
	inner.items = append(g.code(inner, body), one(impl.InReturn, 0)...)
	return append(items, rawItem{ins: impl.Ins{Op: impl.InClose}, block: inner})
}

func (g *rawGenerating) code(b *rawBlock, e impl.Low) []rawItem {
	kid := func(i int) []rawItem { return g.code(b, e.Kids[i]) }
	switch e.Kind {
	case impl.ExVar:
		return g.variable(b, e.N)
	case impl.ExFn:
		return g.closure(b, e.Kids[0], e.Ty, e.N, -1)
	case impl.ExRec:
		return slices.Concat(g.closure(b, e.Kids[0], e.Fun, e.M, e.N), g.store(b, e.N), kid(1))
	case impl.ExLet:
		return slices.Concat(kid(0), g.store(b, e.N), kid(1))
	case impl.ExIf:
		third, end := g.label(), g.label()
		return slices.Concat(kid(0), leap(impl.InIf, third), kid(1), leap(impl.InJump, end), place(third), kid(2), place(end))
	case impl.ExTry:
		second, end := g.label(), g.label()
		return slices.Concat(leap(impl.InTry, second), kid(0), one(impl.InDone, 0), leap(impl.InJump, end), place(second), g.store(b, e.N), kid(1), place(end))
	case impl.ExMatch:
		return append(kid(0), g.match(b, e)...)
	}
	var items []rawItem
	for i := range e.Kids {
		items = append(items, kid(i)...)
	}
	return append(items, rawItem{ins: rawPlainIns(e)})
}

func (g *rawGenerating) match(b *rawBlock, e impl.Low) []rawItem {
	cons, end := g.w.Layouts[e.N].Cons, g.label()
	begins := make([]int, len(cons))
	var items []rawItem
	for _, alt := range e.Alts {
		if alt.Con >= 0 {
			begins[alt.Con] = g.label()
			items = append(items, place(begins[alt.Con])...)
		}
		for _, v := range slices.Backward(alt.Vars) {
			items = append(items, g.store(b, v)...)
		}
		body := g.label()
		for con := 0; con < len(cons) && alt.Con < 0; con++ {
			if begins[con] > 0 {
				continue
			}
			begins[con] = g.label()
			items = append(items, place(begins[con])...)
			for _, field := range slices.Backward(cons[con]) {
				items = append(items, rawItem{ins: impl.Ins{Op: impl.InSet}, local: &rawLocal{ty: field}})
			}
			items = append(items, leap(impl.InJump, body)...)
		}
		items = slices.Concat(items, place(body), g.code(b, alt.Body), leap(impl.InJump, end))
	}
	choose := rawItem{ins: impl.Ins{Op: impl.InCase, A: e.N}, goes: begins}
	return slices.Concat([]rawItem{choose}, items, place(end))
}

func rawPlainIns(e impl.Low) impl.Ins {
	switch e.Kind {
	case impl.ExInt:
		return impl.Ins{Op: impl.InInt, A: e.N}
	case impl.ExText:
		return impl.Ins{Op: impl.InLit, Lit: e.Lit}
	case impl.ExCon:
		return impl.Ins{Op: impl.InCon, A: e.N, B: e.Con}
	case impl.ExOp:
		return impl.Ins{Op: []int{impl.InAdd, impl.InSub, impl.InMul, impl.InLess, impl.InSame, impl.InCat, impl.InLen}[e.N]}
	case impl.ExCall:
		return impl.Ins{Op: impl.InForeign, A: e.N}
	}
	return impl.Ins{Op: slices.Index(opWords, map[int]string{
		impl.ExUnit: "unit", impl.ExApp: "call", impl.ExPair: "pair", impl.ExFst: "fst", impl.ExSnd: "snd", impl.ExRef: "ref", impl.ExRead: "read", impl.ExWrite: "write", impl.ExRaise: "raise",
	}[e.Kind])}
}

// rawReached says which items something comes to.
func rawReached(items []rawItem) []bool {
	reached := make([]bool, len(items))
	todo := []int{0}
	for len(todo) > 0 {
		at := todo[len(todo)-1]
		todo = todo[:len(todo)-1]
		if at == len(items) || reached[at] {
			continue
		}
		reached[at] = true
		for _, label := range items[at].goes {
			todo = append(todo, slices.IndexFunc(items, func(x rawItem) bool { return x.label == label }))
		}
		if items[at].label > 0 || !slices.Contains([]int{impl.InJump, impl.InCase, impl.InRaise, impl.InReturn}, items[at].ins.Op) {
			todo = append(todo, at+1)
		}
	}
	return reached
}

// finish numbers what is left of b and of the blocks in it; it answers the number of b.
func (g *rawGenerating) finish(b *rawBlock) int {
	number := len(g.blocks)
	g.blocks = append(g.blocks, impl.Block{})
	reached := rawReached(b.items)
	places, count := map[int]int{}, 0
	for i, item := range b.items {
		if item.label > 0 {
			places[item.label] = count
		} else if reached[i] {
			count++
		}
	}
	for i, item := range b.items {
		if !reached[i] || item.label > 0 {
			continue
		}
		n := item.ins
		switch n.Op {
		case impl.InSet:
			item.local.number = len(b.is.Locals)
			b.is.Locals = append(b.is.Locals, item.local.ty)
			n.A = item.local.number
		case impl.InGet:
			n.A = item.local.number
		case impl.InClose:
			n.A = g.finish(item.block)
		case impl.InCase:
			for _, label := range item.goes {
				n.To = append(n.To, places[label])
			}
		case impl.InJump, impl.InIf, impl.InTry:
			n.A = places[item.goes[0]]
		}
		b.is.Code = append(b.is.Code, n)
	}
	g.blocks[number] = b.is
	return number
}

// rawGen tells what Gen must, by another way.
func rawGen(w impl.Whole) (impl.Program, bool) {
	if !rawWholeOk(w) {
		return impl.Program{}, false
	}
	g := &rawGenerating{w: w, types: rawTypes(w.Layouts, w.Body)}
	b := &rawBlock{arg: -1, self: -1, locals: map[int]*rawLocal{}, is: impl.Block{Res: w.Body.Ty}}
	b.items = append(g.code(b, w.Body), one(impl.InReturn, 0)...)
	g.finish(b)
	p := impl.Program{Layouts: w.Layouts, Blocks: g.blocks}
	p.Caps = rawCapsOf(p)
	if !rawProgramOk(p) {
		return impl.Program{}, false
	}
	return p, true
}

// wantAcceptedWithJust looks for what promise 10 says of what Gen made.
func wantAcceptedWithJust(t *testing.T, what string, p impl.Program) {
	t.Helper()
	if !impl.Check(p, p.Caps) {
		t.Fatalf("%.2000s: refused with its Caps %v: %s", what, p.Caps, sayBlocks(p))
	}
	if !slices.Equal(p.Caps, rawCapsOf(p)) {
		t.Fatalf("%.2000s: the Caps %v, not %v", what, p.Caps, rawCapsOf(p))
	}
	for i := range p.Caps {
		rest := slices.Delete(slices.Clone(p.Caps), i, i+1)
		short := p
		short.Caps = rest
		if impl.Check(p, rest) || impl.Check(short, p.Caps) {
			t.Fatalf("%.2000s: accepted without %d of %v", what, p.Caps[i], p.Caps)
		}
	}
}

func sayBlocks(p impl.Program) string {
	var texts []string
	for n, b := range p.Blocks {
		texts = append(texts, fmt.Sprint(n, ": ", sayHead(b), " | ", sayCode(p, n)))
	}
	return strings.Join(texts, "\n")
}

// wantGenAsRaw looks for what rawGen tells, and for what the promise says of it; it answers whether there is a program.
func wantGenAsRaw(t *testing.T, w impl.Whole) bool {
	t.Helper()
	want, wantOk := rawGen(w)
	got, ok := impl.Gen(w)
	if ok != wantOk || !sameProgram(got, want) {
		t.Fatalf("%.2000v: %v\n%.3000s\nnot %v\n%.3000s", w, ok, sayBlocks(got), wantOk, sayBlocks(want))
	}
	if !ok {
		return false
	}
	wantAcceptedWithJust(t, sayLow(w.Body), got)
	for n, b := range got.Blocks {
		states, ok := impl.States(got, n)
		if !ok {
			t.Fatalf("%s: block %d has no states", sayLow(w.Body), n)
		}
		wantStatesPromised(t, b, states)
	}
	return true
}

// A codeFun is a function: a block, and what it is closed over.
type codeFun struct {
	block int
	env   []any
}

// A codeRun runs code with the values of trees; what a plain instruction does it asks a treeRun.
type codeRun struct {
	p    impl.Program
	tree treeRun
}

// codeKinds are the kinds whose instructions do what the part does with its Kids, and how many these are.
var codeKinds = map[int][2]int{
	impl.InPair: {impl.ExPair, 2}, impl.InFst: {impl.ExFst, 1}, impl.InSnd: {impl.ExSnd, 1}, impl.InRef: {impl.ExRef, 1}, impl.InRead: {impl.ExRead, 1}, impl.InWrite: {impl.ExWrite, 2},
}

// plain answers what an instruction that goes nowhere pushes, and how many it pops.
func (r *codeRun) plain(n impl.Ins, stack []any) (any, int) {
	top := func(count int) []any { return stack[len(stack)-count:] }
	switch {
	case n.Op == impl.InUnit:
		return nil, 0
	case n.Op == impl.InInt:
		return n.A, 0
	case n.Op == impl.InLit:
		return string(n.Lit), 0
	case n.Op == impl.InLen:
		return r.tree.plain(tree{kind: impl.ExOp, n: impl.OpLen}, top(1)), 1
	case n.Op >= impl.InAdd && n.Op <= impl.InCat:
		return r.tree.plain(tree{kind: impl.ExOp, n: n.Op - impl.InAdd}, top(2)), 2
	case n.Op == impl.InForeign:
		count := []int{1, 0, 1, 1, 2}[n.A]
		return r.tree.plain(tree{kind: impl.ExCall, n: n.A}, slices.Clone(top(count))), count
	case n.Op == impl.InCon:
		count := len(r.p.Layouts[n.A].Cons[n.B])
		return &treeData{n.B, slices.Clone(top(count))}, count
	case n.Op == impl.InClose:
		count := len(r.p.Blocks[n.A].Env)
		return &codeFun{n.A, slices.Clone(top(count))}, count
	}
	kind := codeKinds[n.Op]
	return r.tree.plain(tree{kind: kind[0]}, slices.Clone(top(kind[1]))), kind[1]
}

// call answers what a function gives; false: it raised that.
func (r *codeRun) call(f *codeFun, arg any) (any, bool) {
	var stack []any
	var tries [][2]int
	b := r.p.Blocks[f.block]
	locals := make([]any, len(b.Locals))
	pop := func() any {
		v := stack[len(stack)-1]
		stack = stack[:len(stack)-1]
		return v
	}
	for at := 0; ; {
		r.tree.fuel--
		if r.tree.fuel < 0 {
			panic(treeFuel{})
		}
		n := b.Code[at]
		raised := false
		at++
		switch n.Op {
		case impl.InArg:
			stack = append(stack, arg)
		case impl.InEnv:
			stack = append(stack, f.env[n.A])
		case impl.InSelf:
			stack = append(stack, f)
		case impl.InGet:
			stack = append(stack, locals[n.A])
		case impl.InSet:
			locals[n.A] = pop()
		case impl.InReturn:
			return pop(), true
		case impl.InJump:
			at = n.A
		case impl.InIf:
			if pop().(int) == 0 {
				at = n.A
			}
		case impl.InCase:
			v := pop().(*treeData)
			stack, at = append(stack, v.list...), n.To[v.con]
		case impl.InTry:
			tries = append(tries, [2]int{n.A, len(stack)})
		case impl.InDone:
			tries = tries[:len(tries)-1]
		case impl.InRaise:
			raised = true
		case impl.InCall:
			x := pop()
			v, ok := r.call(pop().(*codeFun), x)
			stack, raised = append(stack, v), !ok
		default:
			v, count := r.plain(n, stack)
			stack = append(stack[:len(stack)-count], v)
		}
		if raised {
			v := pop()
			if len(tries) == 0 {
				return v, false
			}
			last := tries[len(tries)-1]
			tries, stack, at = tries[:len(tries)-1], append(stack[:last[1]], v), last[0]
		}
	}
}

// codeEnd says of a program what treeEnd says of a tree.
func codeEnd(p impl.Program) (text string, ok bool) {
	r := &codeRun{p: p, tree: treeRun{fuel: 60000}}
	defer func() {
		switch why := recover().(type) {
		case nil:
		case treeFuel:
			text, ok = "", false
		default:
			panic(why)
		}
	}()
	v, well := r.call(&codeFun{}, nil)
	if !well {
		return fmt.Sprint(r.tree.trace, " raised ", v), true
	}
	shown := strings.ReplaceAll(treeShow(v, 8), "*tests.codeFun", "*tests.treeFun")
	return fmt.Sprint(r.tree.trace, " ended ", shown), true
}

// wantCodeMeans looks whether code does what its whole program means; it answers whether that ends.
func wantCodeMeans(t *testing.T, w impl.Whole, p impl.Program) bool {
	t.Helper()
	want, ends := treeEnd(treeOfLow(w.Body))
	if !ends {
		return false
	}
	if got, ok := codeEnd(p); !ok || got != want {
		t.Fatalf("%s: %v %s, not %s\n%s", sayLow(w.Body), ok, got, want, sayBlocks(p))
	}
	return true
}

// someRaises puts raises in the place of some parts, so that code does not come behind them; their types stay.
func (w *walk) someRaises(whole impl.Whole) impl.Whole {
	whole = copyWhole(whole)
	for range 1 + w.below(4) {
		p := pick(w, lowPlaces(&whole.Body))
		what := impl.Low{Kind: impl.ExInt, N: w.below(9), Ty: tyInt}
		switch w.below(4) {
		case 0:
			what = impl.Low{Kind: impl.ExCall, N: impl.CapTick, Ty: tyInt}
		case 1:
			what = lowRaise(what)
		}
		*p = impl.Low{Kind: impl.ExRaise, Ty: p.Ty, Kids: []impl.Low{what}}
	}
	return whole
}

// someNest is the text of an int, with functions in functions that ask for the ints and the functions around them.
func (w *walk) someNest(depth int, ints []string, funs []string) string {
	if depth == 0 {
		return pick(w, append(slices.Clone(ints), "1", "tick"))
	}
	part := func() string { return w.someNest(depth-1, ints, funs) }
	name := fmt.Sprint("v", len(ints)+len(funs))
	within := func() string { return w.someNest(depth-1, append(slices.Clone(ints), name), funs) }
	switch w.below(11) {
	case 0, 1:
		return bracket(bracket("fn", name, within()), part())
	case 2, 3:
		fun := "f" + name
		inside := append(slices.Clone(funs), fun)
		body := bracket("if", bracket("less", "0", name), bracket(pick(w, inside), bracket("sub", name, "1")), w.someNest(depth-1, append(slices.Clone(ints), name), inside))
		return bracket("rec", fun, name, body, bracket("add", bracket(fun, part()), w.someNest(depth-1, ints, inside)))
	case 4:
		return bracket("let", name, part(), within())
	case 5:
		return bracket("try", part(), name, within())
	case 6:
		from := pick(w, []string{bracket("Half", part()), bracket("Half", part()), "Ghost", bracket("Body", part(), `"a"`)})
		return bracket("match", from, bracket("Half", name, within()), bracket("_", part()))
	case 7:
		return bracket("if", part(), part(), part())
	case 8:
		if w.below(3) == 0 {
			return bracket("raise", part())
		}
	case 9:
		if len(funs) > 0 {
			return bracket(pick(w, funs), part())
		}
	}
	return bracket("add", part(), part())
}

// wholesOf calls f with what Mono tells of many sources.
func (w *walk) wholesOf(t *testing.T, count int, f func(whole impl.Whole)) {
	for range count {
		s := w.someTyped()
		text := ""
		switch w.below(4) {
		case 0:
			text = "(let x 7 " + w.someLets(2+w.below(3), nil) + ")"
		case 1, 2:
			text = w.someNest(2+w.below(4), nil, nil)
		}
		if text != "" {
			var code int
			if s, code, _ = impl.Parse([]byte(someData + text)); code != impl.ParseWell {
				continue
			}
		}
		term, code := impl.Infer(s)
		whole, lowCode := impl.Mono(s.Datas, term)
		if code == impl.TypeWell && lowCode == impl.MonoWell {
			f(whole)
		}
	}
}

func TestGenOfTheTextsAgainstTheWords(t *testing.T) {
	ends := 0
	for _, text := range slices.Concat(wellTexts, turnTexts, moreTexts, monoTexts()) {
		s := behindData(t, text)
		w, code := impl.Mono(s.Datas, wantWell(t, s))
		if code != impl.MonoWell || !wantGenAsRaw(t, w) {
			continue
		}
		if p, _ := impl.Gen(w); wantCodeMeans(t, w, p) {
			ends++
		}
	}
	if ends < 60 {
		t.Error("the test's own texts:", ends)
	}
}

func TestManyGenAgainstTheWords(t *testing.T) {
	w := &walk{state: 101}
	made, ends, caps, blocks := 0, 0, 0, 0
	w.wholesOf(t, 2500, func(whole impl.Whole) {
		if !wantGenAsRaw(t, whole) {
			return
		}
		p, _ := impl.Gen(whole)
		made++
		caps += min(1, len(p.Caps))
		blocks = max(blocks, len(p.Blocks))
		if wantCodeMeans(t, whole, p) {
			ends++
		}
	})
	if made < 1000 || ends < 500 || caps < 200 || blocks < 20 {
		t.Error("the test's own sources:", made, ends, caps, blocks)
	}
}

// TestManyGenWithRaises: parts anywhere that do not come behind.
func TestManyGenWithRaises(t *testing.T) {
	w := &walk{state: 102}
	made, ends, noReturn := 0, 0, 0
	w.wholesOf(t, 1500, func(whole impl.Whole) {
		for range 3 {
			turned := w.someRaises(whole)
			if !wantGenAsRaw(t, turned) {
				continue
			}
			p, _ := impl.Gen(turned)
			made++
			if wantCodeMeans(t, turned, p) {
				ends++
			}
			for _, b := range p.Blocks {
				if !slices.ContainsFunc(b.Code, func(n impl.Ins) bool { return n.Op == impl.InReturn }) {
					noReturn++
				}
			}
		}
	})
	if made < 2000 || ends < 1000 || noReturn < 500 {
		t.Error("the test's own raises:", made, ends, noReturn)
	}
}

// TestManyGenWithOtherNumbers: the numbers stand in another order than they are bound, so that Env does.
func TestManyGenWithOtherNumbers(t *testing.T) {
	w := &walk{state: 103}
	made, envs := 0, 0
	w.wholesOf(t, 1500, func(whole impl.Whole) {
		whole = copyWhole(whole)
		bound := rawAllBinds(whole.Body)
		taken := map[int]bool{}
		for _, n := range bound {
			renumberLow(&whole.Body, n, -1-n)
		}
		for _, n := range bound {
			to := pick(w, []int{w.below(3 * len(bound)), w.below(1000), impl.MaxNum - w.below(100)})
			for taken[to] {
				to = w.below(impl.MaxNum)
			}
			taken[to] = true
			renumberLow(&whole.Body, -1-n, to)
		}
		if wantGenAsRaw(t, whole) {
			made++
			p, _ := impl.Gen(whole)
			for _, b := range p.Blocks {
				envs += min(1, len(b.Env)/2)
			}
		}
	})
	if made < 500 || envs < 200 {
		t.Error("the test's own numbers:", made, envs)
	}
}

// TestManyGenOfWhatIsTurned: what is not WholeOk is refused.
func TestManyGenOfWhatIsTurned(t *testing.T) {
	w := &walk{state: 104}
	made, refused := 0, 0
	w.wholesOf(t, 1000, func(whole impl.Whole) {
		for range 3 {
			turned := copyWhole(whole)
			for range 1 + w.below(2) {
				p := pick(w, lowPlaces(&turned.Body))
				pick(w, slices.Concat(lowTurnsOf(*p), lowTreeTurns(*p))).do(p)
			}
			if wantGenAsRaw(t, turned) {
				made++
			} else {
				refused++
			}
		}
	})
	if made < 60 || refused < 1000 {
		t.Errorf("the test's own turns: %d made, %d refused", made, refused)
	}
}

// TestGenOfWholesWithOneFieldTurned: a program comes just of what is WholeOk.
func TestGenOfWholesWithOneFieldTurned(t *testing.T) {
	made, refused := 0, 0
	for _, text := range turnTexts {
		w := wholeOf(t, text)
		for place, p := range lowPlaces(&w.Body) {
			for i, turn := range slices.Concat(lowTurnsOf(*p), lowTreeTurns(*p)) {
				if (i+place)%3 > 0 {
					continue
				}
				turned := copyWhole(w)
				turn.do(lowPlaces(&turned.Body)[place])
				if wantGenAsRaw(t, turned) {
					made++
				} else {
					refused++
				}
			}
		}
		for _, turn := range layoutTurns(w.Layouts) {
			turned := copyWhole(w)
			turned.Layouts = turn(turned.Layouts)
			wantGenAsRaw(t, turned)
		}
	}
	if made < 150 || refused < 6000 {
		t.Errorf("the test's own turns: %d made, %d refused", made, refused)
	}
}

// TestManyFreeOf: of all parts of many whole programs, and of such as are none.
func TestManyFreeOf(t *testing.T) {
	w := &walk{state: 105}
	free, none := 0, 0
	w.wholesOf(t, 600, func(whole impl.Whole) {
		turned := copyWhole(whole)
		p := pick(w, lowPlaces(&turned.Body))
		pick(w, slices.Concat(lowTurnsOf(*p), lowTreeTurns(*p))).do(p)
		for _, part := range slices.Concat(lowPlaces(&whole.Body), lowPlaces(&turned.Body)) {
			want := rawFreeOf(*part, nil)
			slices.Sort(want)
			want = slices.Compact(want)
			if got := impl.FreeOf(*part); !slices.Equal(got, want) {
				t.Fatalf("%v: %v, not %v", *part, got, want)
			}
			if len(want) > 0 {
				free++
			} else {
				none++
			}
		}
	})
	if free < 2000 || none < 2000 {
		t.Error("the test's own parts:", free, none)
	}
}

func TestGenByManyAtOnce(t *testing.T) {
	var wholes []impl.Whole
	(&walk{state: 106}).wholesOf(t, 200, func(whole impl.Whole) { wholes = append(wholes, whole) })
	say := func(w impl.Whole) string {
		p, ok := impl.Gen(w)
		text := fmt.Sprint(ok, sayBlocks(p), p.Caps)
		for _, part := range lowPlaces(&w.Body) {
			text += fmt.Sprint(impl.FreeOf(*part))
		}
		return text
	}
	var plain []string
	for _, w := range wholes {
		plain = append(plain, say(w))
	}
	var all sync.WaitGroup
	wrong := make([]int, 8)
	for worker := range wrong {
		all.Go(func() {
			for i, w := range wholes {
				if say(w) != plain[i] {
					wrong[worker]++
				}
			}
		})
	}
	all.Wait()
	if !filled(wrong, 0) || len(wholes) < 50 {
		t.Error("wrong answers:", wrong, len(wholes))
	}
}
