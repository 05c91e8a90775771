package tests

import (
	"fmt"
	"maps"
	"slices"
	"strings"
	"testing"

	"loop.example/g00293/impl"
)

// The raw evaluation below goes through a source without calling itself: a part waits in a list until there is its value, so that
// its nest is its place there. Values are Vals: of a fun N is the place in a list of functions, of a ref that of a cell. How it ends
// it tells by a panic.

type rawSeen struct {
	name string
	is   impl.Val
}

type rawFun struct {
	sees []rawSeen
	arg  string
	body impl.Expr
}

// A rawWaiting is a part that waits, with the values of what was evaluated in it.
type rawWaiting struct {
	part   impl.Expr
	sees   []rawSeen
	values []impl.Val
	raised bool // the first value is what was raised
}

type rawEvaluation struct {
	cons    map[string]int
	scene   *rawScene
	funs    []rawFun
	cells   []impl.Val
	waiting []*rawWaiting
	steps   int
	fuel    int
}

// rawEval tells what Eval must, by another way.
func rawEval(s impl.Source, w impl.World, fuel int) impl.Outcome {
	if _, code := impl.Infer(s); code != impl.TypeWell || !rawWorldOk(w) || len(w.Trace) != 0 || fuel < 0 || fuel > 300000 {
		return impl.Outcome{}
	}
	r := &rawEvaluation{cons: map[string]int{}, scene: rawSceneOf(w), fuel: fuel}
	for _, d := range s.Datas {
		for i, con := range d.Cons {
			r.cons[string(con.Name)] = i
		}
	}
	halt := r.run(s.Body)
	return impl.Outcome{Kind: halt.kind, N: halt.n, Text: []byte(halt.text), World: r.scene.world(), Steps: r.steps}
}

func (r *rawEvaluation) run(body impl.Expr) (halt rawHalt) {
	defer func() {
		why := recover()
		is := false
		if halt, is = why.(rawHalt); !is {
			panic(why)
		}
	}()
	r.enter(body, nil)
	for {
		r.advance(r.waiting[len(r.waiting)-1])
	}
}

func (r *rawEvaluation) enter(part impl.Expr, sees []rawSeen) {
	if r.steps == r.fuel {
		panic(rawHalt{kind: impl.OutFuel})
	}
	if len(r.waiting) == 20000 {
		panic(rawHalt{kind: impl.OutDeep})
	}
	r.steps++
	r.waiting = append(r.waiting, &rawWaiting{part: part, sees: sees})
}

// leave gives v to the part that waits for it.
func (r *rawEvaluation) leave(v impl.Val) {
	r.waiting = r.waiting[:len(r.waiting)-1]
	if len(r.waiting) == 0 {
		text := rawValShown(v, r.cells, 1)
		panic(rawHalt{kind: impl.OutHalt, text: text[:min(len(text), impl.MaxBytes)]})
	}
	top := r.waiting[len(r.waiting)-1]
	top.values = append(top.values, v)
}

// raise gives n to the last try whose first Kid has no value yet.
func (r *rawEvaluation) raise(n int) {
	for len(r.waiting) > 0 {
		top := r.waiting[len(r.waiting)-1]
		if top.part.Kind == impl.ExTry && len(top.values) == 0 {
			top.values, top.raised = []impl.Val{valInt(n)}, true
			return
		}
		r.waiting = r.waiting[:len(r.waiting)-1]
	}
	panic(rawHalt{kind: impl.OutRaise, n: n})
}

// rawAhead says how many Kids are evaluated ahead of all else, of the kinds that do not have all of them evaluated.
var rawAhead = map[int]int{impl.ExFn: 0, impl.ExRec: 0, impl.ExLet: 1, impl.ExIf: 1, impl.ExTry: 1, impl.ExMatch: 1}

func (r *rawEvaluation) advance(top *rawWaiting) {
	ahead, some := rawAhead[top.part.Kind]
	if !some {
		ahead = len(top.part.Kids)
	}
	switch done := len(top.values); {
	case done < ahead:
		r.enter(top.part.Kids[done], top.sees)
	case done > ahead:
		r.leave(top.values[ahead])
	case !r.goOn(top):
		r.act(top.part, top.sees, top.values)
	}
}

func bound(sees []rawSeen, name []byte, is impl.Val) []rawSeen {
	return append(slices.Clone(sees), rawSeen{string(name), is})
}

// goOn goes on in what is evaluated last of a part; false, if there is no such thing.
func (r *rawEvaluation) goOn(top *rawWaiting) bool {
	e := top.part
	switch e.Kind {
	case impl.ExLet:
		r.enter(e.Kids[1], bound(top.sees, e.Name, top.values[0]))
	case impl.ExRec:
		sees := bound(top.sees, e.Name, impl.Val{Kind: impl.TyFun, N: len(r.funs)})
		r.funs = append(r.funs, rawFun{sees, string(e.Arg), e.Kids[0]})
		r.enter(e.Kids[1], sees)
	case impl.ExIf:
		place := 1
		if top.values[0].N == 0 {
			place = 2
		}
		r.enter(e.Kids[place], top.sees)
	case impl.ExTry:
		if !top.raised {
			r.leave(top.values[0])
			break
		}
		r.enter(e.Kids[1], bound(top.sees, e.Name, top.values[0]))
	case impl.ExMatch:
		place := slices.IndexFunc(e.Arms, func(a impl.Arm) bool { return len(a.Con) == 0 || r.cons[string(a.Con)] == top.values[0].N })
		sees := top.sees
		for i, name := range e.Arms[place].Vars {
			sees = bound(sees, name, top.values[0].List[i])
		}
		r.enter(e.Arms[place].Body, sees)
	case impl.ExApp:
		f := r.funs[top.values[0].N]
		r.enter(f.body, bound(f.sees, []byte(f.arg), top.values[1]))
	default:
		return false
	}
	return true
}

// act leaves a part with what comes of its Kids' values.
func (r *rawEvaluation) act(e impl.Expr, sees []rawSeen, values []impl.Val) {
	switch e.Kind {
	case impl.ExUnit:
		r.leave(impl.Val{})
	case impl.ExInt:
		r.leave(valInt(e.N))
	case impl.ExText:
		r.leave(valText(string(e.Lit)))
	case impl.ExVar:
		for _, b := range slices.Backward(sees) {
			if b.name == string(e.Name) {
				r.leave(b.is)
				return
			}
		}
	case impl.ExFn:
		r.funs = append(r.funs, rawFun{sees, string(e.Name), e.Kids[0]})
		r.leave(impl.Val{Kind: impl.TyFun, N: len(r.funs) - 1})
	case impl.ExPair:
		r.leave(valPair(values...))
	case impl.ExFst:
		r.leave(values[0].List[0])
	case impl.ExSnd:
		r.leave(values[0].List[1])
	case impl.ExRef:
		r.cells = append(r.cells, values[0])
		r.leave(valRef(len(r.cells) - 1))
	case impl.ExRead:
		r.leave(r.cells[values[0].N])
	case impl.ExWrite:
		r.cells[values[0].N] = values[1]
		r.leave(impl.Val{})
	case impl.ExCon:
		r.leave(valData(r.cons[string(e.Name)], values...))
	case impl.ExRaise:
		r.raise(values[0].N)
	case impl.ExOp:
		r.leave(rawOperated(e.N, values))
	case impl.ExCall:
		r.leave(r.called(e.N, values))
	}
}

func rawOperated(op int, values []impl.Val) impl.Val {
	switch op {
	case impl.OpCat:
		both := string(values[0].Text) + string(values[1].Text)
		return valText(both[:min(60, len(both))])
	case impl.OpLen:
		return valInt(len(values[0].Text))
	}
	ins := map[int]int{impl.OpAdd: impl.InAdd, impl.OpSub: impl.InSub, impl.OpMul: impl.InMul, impl.OpLess: impl.InLess, impl.OpSame: impl.InSame}
	return valInt(reckoned(ins[op], values[0].N, values[1].N))
}

// called: where the trace is full the call is none; its answer is 0.
func (r *rawEvaluation) called(kind int, values []impl.Val) impl.Val {
	two := append(slices.Clone(values), impl.Val{}, impl.Val{})
	answer, _ := r.scene.foreign(kind, two[0].N, two[1].N, two[0].Text)
	if kind == impl.CapPrint || kind == impl.CapPut {
		return impl.Val{}
	}
	return valInt(answer)
}

// An evalTrial is what Eval is called with.
type evalTrial struct {
	what string
	s    impl.Source
	w    impl.World
	fuel int
}

func (c evalTrial) eval() impl.Outcome {
	return impl.Eval(c.s, c.w, c.fuel)
}

// wantEvalAsRaw holds Eval against the raw evaluation, and answers what comes.
func wantEvalAsRaw(t *testing.T, c evalTrial) impl.Outcome {
	t.Helper()
	got, want := c.eval(), rawEval(c.s, c.w, c.fuel)
	if !sameOutcome(got, want) {
		t.Fatalf("%s: fuel %d: %s\nnot %s", c.what, c.fuel, sayOutcome(got), sayOutcome(want))
	}
	return got
}

// endAlike: Kind, N, Text and World.
func endAlike(a impl.Outcome, b impl.Outcome) bool {
	return a.Kind == b.Kind && a.N == b.N && sameText(a.Text, b.Text) && sameWorld(a.World, b.World)
}

// wantCodeDoes looks for what promise 17 says of what c means within 400 steps, and that what code does ahead of its end begins
// as what is meant; it answers how the code ended, where something is promised of it.
func wantCodeDoes(t *testing.T, c evalTrial) int {
	t.Helper()
	term, _ := impl.Infer(c.s)
	whole, code := impl.Mono(c.s.Datas, term)
	p, ok := impl.Gen(whole)
	if code != impl.MonoWell || !ok {
		return impl.OutRefused
	}
	short := impl.RunFree(p, p.Caps, c.w, 900)
	c.fuel = 400
	means := c.eval()
	if means.Kind != impl.OutHalt && means.Kind != impl.OutRaise {
		c.fuel = impl.MaxEval
		if more := c.eval(); !begins(short.World.Trace, more.World.Trace) {
			t.Fatalf("%s: %s\nbut it means %s", c.what, sayOutcome(short), sayOutcome(more))
		}
		return impl.OutRefused
	}
	run, free := impl.Run(p, impl.MaxHalf, p.Caps, c.w, impl.MaxFuel, nil), impl.RunFree(p, p.Caps, c.w, impl.MaxFuel)
	noRoom := run.Kind == impl.OutMemory && begins(run.World.Trace, means.World.Trace)
	if !endAlike(run, means) && !noRoom || !endAlike(free, means) || !begins(short.World.Trace, means.World.Trace) {
		t.Fatalf("%s: its code: %s\nwithout a heap: %s\nbut it means %s", c.what, sayOutcome(run), sayOutcome(free), sayOutcome(means))
	}
	return run.Kind
}

// wantManyEvals holds evaluations of a source against the raw ones, against each other, and against its code.
func (w *walk) wantManyEvals(t *testing.T, what string, s impl.Source, count map[int]int) {
	t.Helper()
	c := evalTrial{what: what, s: s, w: w.runWorld(), fuel: pick(w, []int{3000, 3000, w.below(100)})}
	steps := wantEvalAsRaw(t, c).Steps
	fuels := []int{0, 1, 2, steps, steps + 1, steps + 500}
	for range 4 {
		fuels = append(fuels, w.below(steps+1))
	}
	wantMoreFuel(t, what, fuels, func(fuel int) impl.Outcome {
		c.fuel = fuel
		got := wantEvalAsRaw(t, c)
		count[got.Kind]++
		return got
	})
	count[100+wantCodeDoes(t, c)]++
}

// someEvalText is the text of a body behind someData.
func (w *walk) someEvalText() string {
	switch w.below(6) {
	case 0:
		return "(let x 7 " + w.someLets(2+w.below(3), nil) + ")"
	case 1:
		return w.someNest(2+w.below(4), nil, nil)
	case 2:
		return w.someBusy(1+w.below(5), []string{})
	case 3:
		return bracket("ref", w.someMade(2+w.below(5)))
	}
	return w.someScoped(2+w.below(6), map[string]byte{})
}

// wantManyTexts holds count drawn texts of well typed bodies against all of this.
func (w *walk) wantManyTexts(t *testing.T, tries int, some func() string, least map[int]int) {
	t.Helper()
	count := map[int]int{}
	for range tries {
		text := some()
		s, code, _ := impl.Parse([]byte(text))
		if _, tyCode := impl.Infer(s); code == impl.ParseWell && tyCode == impl.TypeWell {
			w.wantManyEvals(t, text, s, count)
		}
	}
	wantCounted(t, count, least)
}

func TestManyEvals(t *testing.T) {
	w := &walk{state: 151}
	w.wantManyTexts(t, 1400, func() string { return someData + w.someEvalText() },
		map[int]int{impl.OutHalt: 2000, impl.OutRaise: 500, impl.OutFuel: 3000, 100 + impl.OutHalt: 600, 100 + impl.OutRaise: 150, 100: 30})
}

func TestManyTypedEvals(t *testing.T) {
	w := &walk{state: 152}
	w.wantManyTexts(t, 1500, func() string { return rawPrint(w.someTyped()) },
		map[int]int{impl.OutHalt: 2000, impl.OutRaise: 300, impl.OutFuel: 5000, 100 + impl.OutHalt: 300, 100 + impl.OutRaise: 500})
}

func TestManyLoopsEvaluated(t *testing.T) {
	w := &walk{state: 153}
	w.wantManyTexts(t, 400, w.someLoop, map[int]int{impl.OutHalt: 500, impl.OutRaise: 50, impl.OutFuel: 1000, 100 + impl.OutHalt: 50, 100 + impl.OutRaise: 5, 100: 100})
}

// TestTheTextsEvaluated: those that other chapters' tests have.
func TestTheTextsEvaluated(t *testing.T) {
	list := slices.Concat(wellTexts, turnTexts, moreTexts, monoTexts())
	w := &walk{state: 154}
	w.wantManyTexts(t, len(list), func() string {
		text := list[0]
		list = list[1:]
		return someData + text
	}, map[int]int{impl.OutHalt: 200, impl.OutFuel: 300, 100 + impl.OutHalt: 80, 100 + impl.OutRaise: 1})
}

// withName is scope with a name of a kind in it: i of an int, f of a function from int to int, c of a cell with an int.
func withName(scope map[string]byte, name string, kind byte) map[string]byte {
	scope = maps.Clone(scope)
	scope[name] = kind
	return scope
}

// someOf is a name of that kind; false, if there is none.
func (w *walk) someOf(scope map[string]byte, kind byte) (string, bool) {
	var names []string
	for _, name := range slices.Sorted(maps.Keys(scope)) {
		if scope[name] == kind {
			names = append(names, name)
		}
	}
	if len(names) == 0 {
		return "", false
	}
	return pick(w, names), true
}

// someScoped is the text of an int in which few names hide each other again and again.
func (w *walk) someScoped(depth int, scope map[string]byte) string {
	if name, ok := w.someOf(scope, 'i'); depth <= 0 {
		return pick(w, []string{"tick", fmt.Sprint(w.below(7) - 2), map[bool]string{true: name, false: "(get 1)"}[ok], map[bool]string{true: name, false: "3"}[ok]})
	}
	name := pick(w, []string{"a", "b", "e"})
	part := func() string { return w.someScoped(depth-1-w.below(2), scope) }
	within := func(kind byte) string { return w.someScoped(depth-1, withName(scope, name, kind)) }
	switch w.below(16) {
	case 0:
		return bracket("let", name, part(), within('i'))
	case 1:
		return bracket("let", name, w.someFun(depth-1, scope), within('f'))
	case 2:
		return bracket("let", name, bracket("ref", part()), within('c'))
	case 3:
		other := map[string]string{"a": "b", "b": "e", "e": "a"}[name]
		inside := withName(withName(scope, name, 'f'), other, 'i')
		body := bracket("if", bracket("less", other, "1"), w.someScoped(depth-1, withName(scope, other, 'i')), w.someScoped(depth-1, inside))
		return bracket("rec", name, other, body, within('f'))
	case 4:
		return bracket("try", part(), name, within('i'))
	case 5:
		return bracket("match", bracket("Cons", part(), pick(w, []string{"Nil", bracket("Cons", part(), "Nil")})), "(Nil "+part()+")", bracket("Cons", name, "rest", within('i')))
	case 6:
		return bracket("match", pick(w, []string{bracket("Half", part()), "Ghost", bracket("Body", part(), `"q"`)}), bracket("Body", name, "t", within('i')), "(_ "+part()+")")
	case 7:
		return bracket(w.someFun(depth-1, scope), part())
	case 8, 9:
		if f, ok := w.someOf(scope, 'f'); ok {
			return bracket(f, part())
		}
	case 10:
		if c, ok := w.someOf(scope, 'c'); ok {
			return bracket("fst", bracket("pair", bracket("read", c), bracket("write", c, part())))
		}
	case 11:
		if c, ok := w.someOf(scope, 'c'); ok {
			return bracket("snd", bracket("pair", bracket("write", c, part()), part()))
		}
	case 12:
		return bracket("raise", part())
	case 13:
		return pick(w, []string{bracket("get", part()), bracket("draw", part()), bracket("fst", bracket("pair", part(), bracket("put", part(), part()))), bracket("snd", bracket("pair", `(print "p")`, part()))})
	case 14:
		return bracket("if", part(), part(), part())
	}
	return bracket(pick(w, strings.Fields("add sub mul less same")), part(), part())
}

func (w *walk) someFun(depth int, scope map[string]byte) string {
	if f, ok := w.someOf(scope, 'f'); ok && w.below(3) == 0 {
		return f
	}
	name := pick(w, []string{"a", "b", "e"})
	return bracket("fn", name, w.someScoped(depth-1, withName(scope, name, 'i')))
}
