package tests

import (
	"fmt"
	"slices"
	"sync"
	"testing"

	"loop.example/g00293/impl"
)

// A pathState is a state on one path through a block, ahead of the instruction at.
type pathState struct {
	at    int
	state impl.State
}

// rawTrade says what an instruction pops (as it was pushed) and pushes, with variables for the table's letters; false: something is not there.
func rawTrade(p impl.Program, b impl.Block, n impl.Ins, set []bool) ([]impl.Ty, []impl.Ty, bool) {
	a, c := tyVar(0), tyVar(1)
	list := func(types ...impl.Ty) []impl.Ty { return types }
	switch n.Op {
	case impl.InUnit:
		return nil, list(tyUnit), true
	case impl.InInt:
		return nil, list(tyInt), true
	case impl.InLit:
		return nil, list(tyText), true
	case impl.InArg:
		return nil, list(b.Arg), true
	case impl.InSelf:
		return nil, list(tyOf(impl.TyFun, b.Arg, b.Res)), true
	case impl.InAdd, impl.InSub, impl.InMul, impl.InLess, impl.InSame:
		return list(tyInt, tyInt), list(tyInt), true
	case impl.InCat:
		return list(tyText, tyText), list(tyText), true
	case impl.InLen:
		return list(tyText), list(tyInt), true
	case impl.InPair:
		return list(a, c), list(tyOf(impl.TyPair, a, c)), true
	case impl.InFst:
		return list(tyOf(impl.TyPair, a, c)), list(a), true
	case impl.InSnd:
		return list(tyOf(impl.TyPair, a, c)), list(c), true
	case impl.InRef:
		return list(a), list(inRef(a)), true
	case impl.InRead:
		return list(inRef(a)), list(a), true
	case impl.InWrite:
		return list(inRef(a), a), list(tyUnit), true
	case impl.InCall:
		return list(tyOf(impl.TyFun, a, c), a), list(c), true
	case impl.InReturn:
		return list(b.Res), nil, true
	case impl.InIf, impl.InRaise:
		return list(tyInt), nil, true
	case impl.InJump, impl.InTry, impl.InDone:
		return nil, nil, true
	}
	return rawPlaced(p, b, n, set)
}

// rawPlaced is rawTrade of the ops whose A is a place of something.
func rawPlaced(p impl.Program, b impl.Block, n impl.Ins, set []bool) ([]impl.Ty, []impl.Ty, bool) {
	calls := [][2][]impl.Ty{{{tyText}, {tyUnit}}, {nil, {tyInt}}, {{tyInt}, {tyInt}}, {{tyInt}, {tyInt}}, {{tyInt, tyInt}, {tyUnit}}}
	switch {
	case n.Op == impl.InEnv && n.A < len(b.Env):
		return nil, []impl.Ty{b.Env[n.A]}, true
	case n.Op == impl.InGet && n.A < len(b.Locals):
		return nil, []impl.Ty{b.Locals[n.A]}, set[n.A]
	case n.Op == impl.InSet && n.A < len(b.Locals):
		return []impl.Ty{b.Locals[n.A]}, nil, true
	case n.Op == impl.InCon && n.A < len(p.Layouts) && n.B < len(p.Layouts[n.A].Cons):
		return p.Layouts[n.A].Cons[n.B], []impl.Ty{tyData(n.A)}, true
	case n.Op == impl.InCase && n.A < len(p.Layouts):
		return []impl.Ty{tyData(n.A)}, nil, len(n.To) == len(p.Layouts[n.A].Cons)
	case n.Op == impl.InClose && n.A > 0 && n.A < len(p.Blocks):
		return p.Blocks[n.A].Env, []impl.Ty{tyOf(impl.TyFun, p.Blocks[n.A].Arg, p.Blocks[n.A].Res)}, true
	case n.Op == impl.InForeign && n.A < len(calls):
		return calls[n.A][0], calls[n.A][1], true
	}
	return nil, nil, false
}

// rawPushed answers a stack with more on it, if that may be.
func rawPushed(stack []impl.Ty, types ...impl.Ty) ([]impl.Ty, bool) {
	all := slices.Concat(stack, types)
	return all, len(all) <= impl.MaxStack && !slices.ContainsFunc(types, func(ty impl.Ty) bool { return rawSize(ty) > impl.MaxSize || rawDepth(ty) > impl.MaxDepth })
}

// rawTraded pops and pushes: the letters are found by making types alike.
func rawTraded(s impl.State, pops []impl.Ty, pushes []impl.Ty) ([]impl.Ty, bool) {
	left := len(s.Stack) - len(pops)
	if left < 0 || len(s.Tries) > 0 && left < s.Tries[len(s.Tries)-1].Height && len(pops) > 0 {
		return nil, false
	}
	var binds []impl.Bind
	for i, want := range pops {
		var ok bool
		if binds, ok = impl.Unify(binds, want, s.Stack[left+i]); !ok {
			return nil, false
		}
	}
	stack := s.Stack[:left]
	for _, ty := range pushes {
		found, ok := impl.Resolve(binds, ty)
		if !ok {
			return nil, false
		}
		if stack, ok = rawPushed(stack, found); !ok {
			return nil, false
		}
	}
	return stack, true
}

// rawSteps tells where one path goes on; false: it can't.
func rawSteps(p impl.Program, b impl.Block, path pathState) ([]pathState, bool) {
	n, s := b.Code[path.at], path.state
	pops, pushes, ok := rawTrade(p, b, n, s.Set)
	if !ok {
		return nil, false
	}
	if s.Stack, ok = rawTraded(s, pops, pushes); !ok {
		return nil, false
	}
	next := pathState{path.at + 1, s}
	switch n.Op {
	case impl.InSet:
		next.state.Set = slices.Clone(s.Set)
		next.state.Set[n.A] = true
	case impl.InJump:
		return []pathState{{n.A, s}}, true
	case impl.InIf:
		return []pathState{{n.A, s}, next}, true
	case impl.InCase:
		var list []pathState
		for i, to := range n.To {
			alt := s
			if alt.Stack, ok = rawPushed(s.Stack, p.Layouts[n.A].Cons[i]...); !ok {
				return nil, false
			}
			list = append(list, pathState{to, alt})
		}
		return list, true
	case impl.InReturn:
		return nil, len(s.Stack) == 0 && len(s.Tries) == 0
	case impl.InRaise:
		return nil, true
	case impl.InTry:
		taken := s
		taken.Stack, ok = rawPushed(s.Stack, tyInt)
		next.state.Tries = append(slices.Clone(s.Tries), impl.Try{To: n.A, Height: len(s.Stack)})
		return []pathState{{n.A, taken}, next}, ok && len(next.state.Tries) <= impl.MaxStack
	case impl.InDone:
		if len(s.Tries) == 0 {
			return nil, false
		}
		next.state.Tries = s.Tries[:len(s.Tries)-1]
	}
	return []pathState{next}, true
}

// rawPaths goes all paths through a block, each by itself, as far as it has code: what they have ahead of each of so many instructions.
// False: one of them can't go on.
func rawPaths(p impl.Program, b impl.Block, count int) ([][]impl.State, bool) {
	went := map[string]bool{}
	at := make([][]impl.State, count)
	paths := []pathState{{0, impl.State{Set: make([]bool, len(b.Locals)), Here: true}}}
	for len(paths) > 0 {
		path := paths[len(paths)-1]
		paths = paths[:len(paths)-1]
		name := fmt.Sprint(path.at, " ", sayState(path.state))
		if went[name] {
			continue
		}
		went[name] = true
		at[path.at] = append(at[path.at], path.state)
		if path.at >= len(b.Code) {
			continue
		}
		next, ok := rawSteps(p, b, path)
		for _, other := range next {
			ok = ok && other.at > path.at && other.at < count
		}
		if !ok {
			return nil, false
		}
		paths = append(paths, next...)
	}
	return at, true
}

// rawMet holds what all paths have at one instruction against each other.
func rawMet(states []impl.State) (impl.State, bool) {
	if len(states) == 0 {
		return impl.State{}, false
	}
	all := states[0]
	all.Set = slices.Clone(all.Set)
	for _, s := range states {
		if !slices.EqualFunc(s.Stack, all.Stack, rawSame) || !slices.Equal(s.Tries, all.Tries) {
			return impl.State{}, false
		}
		for i, is := range s.Set {
			all.Set[i] = all.Set[i] && is
		}
	}
	return all, true
}

// rawStates tells what States must, by another way.
func rawStates(p impl.Program, n int) ([]impl.State, bool) {
	if !rawProgramOk(p) || n < 0 || n >= len(p.Blocks) {
		return nil, false
	}
	at, ok := rawPaths(p, p.Blocks[n], len(p.Blocks[n].Code))
	var list []impl.State
	for _, states := range at {
		met, same := rawMet(states)
		ok = ok && same
		list = append(list, met)
	}
	if !ok {
		return nil, false
	}
	return list, true
}

// rawGoesOn says whether the code of a block may be the beginning of one that has states, of so many instructions.
func rawGoesOn(p impl.Program, b impl.Block, count int) bool {
	at, ok := rawPaths(p, b, count)
	for i, states := range at {
		_, same := rawMet(states)
		ok = ok && (same || i >= len(b.Code) && len(states) == 0)
	}
	return ok
}

func rawCheck(p impl.Program, grants []int) bool {
	ok := rawProgramOk(p) && len(p.Blocks[0].Env) == 0 && rawSame(p.Blocks[0].Arg, tyUnit) && slices.Equal(rawCapsOf(p), p.Caps)
	for _, kind := range p.Caps {
		ok = ok && slices.Contains(grants, kind)
	}
	for n := range p.Blocks {
		if ok {
			_, ok = rawStates(p, n)
		}
	}
	return ok
}

// wantStatesAsRaw looks for what rawStates tells; it answers whether there are states.
func wantStatesAsRaw(t *testing.T, what string, p impl.Program, n int) bool {
	t.Helper()
	want, wantOk := rawStates(p, n)
	got, ok := impl.States(p, n)
	if ok != wantOk || !slices.Equal(sayStates(got), sayStates(want)) {
		t.Fatalf("%s: %v\n%v, %q\nnot %v, %q", what, sayCode(p, n), ok, sayStates(got), wantOk, sayStates(want))
	}
	if ok {
		wantStatesPromised(t, p.Blocks[n], got)
	}
	return ok
}

// wantStatesPromised: all reached, at the beginning nothing, at each return just its result.
func wantStatesPromised(t *testing.T, b impl.Block, states []impl.State) {
	t.Helper()
	if len(states) != len(b.Code) {
		t.Fatalf("%d states of %d instructions", len(states), len(b.Code))
	}
	if first := states[0]; slices.Contains(first.Set, true) || len(first.Stack) > 0 || len(first.Tries) > 0 {
		t.Fatalf("the first state: %q", sayState(first))
	}
	for i, s := range states {
		if !s.Here || len(s.Set) != len(b.Locals) {
			t.Fatalf("state %d: %q", i, sayState(s))
		}
		if b.Code[i].Op == impl.InReturn && (len(s.Stack) != 1 || !rawSame(s.Stack[0], b.Res) || len(s.Tries) > 0) {
			t.Fatalf("state %d, at a return: %q", i, sayState(s))
		}
	}
}

func sayCode(p impl.Program, n int) string {
	var text string
	for i, ins := range p.Blocks[n].Code {
		text += fmt.Sprint(i, ": ", opWords[ins.Op], " ", ins.A, " ", ins.B, " ", ins.To, "; ")
	}
	return text
}

// eachGrants calls f with all lists of caps, ascending.
func eachGrants(f func(grants []int)) {
	for bits := range 1 << (impl.CapPut + 1) {
		var grants []int
		for kind := range impl.CapPut + 1 {
			if bits>>kind&1 == 1 {
				grants = append(grants, kind)
			}
		}
		f(grants)
	}
}

// wantCheckAsRaw looks for what rawCheck tells, with all grants, and for what the promise says; it answers whether it is ever accepted.
func wantCheckAsRaw(t *testing.T, what string, p impl.Program) bool {
	t.Helper()
	ever := rawCheck(p, []int{0, 1, 2, 3, 4})
	b, isProgram := impl.CodeBytes(p)
	eachGrants(func(grants []int) {
		want := ever && !slices.ContainsFunc(p.Caps, func(kind int) bool { return !slices.Contains(grants, kind) })
		if impl.Check(p, grants) != want || isProgram && impl.CheckBytes(b, grants) != want {
			t.Fatalf("%s: %v with %v: not %v\n%v", what, p, grants, want, sayCode(p, 0))
		}
	})
	if ever {
		for n, b := range p.Blocks {
			states, ok := impl.States(p, n)
			if !ok {
				t.Fatalf("%s: accepted, but block %d has no states", what, n)
			}
			wantStatesPromised(t, b, states)
		}
	}
	return ever
}

// growBlocks looks at the block 1 with all code that begins as it does, up to so many instructions.
func growBlocks(t *testing.T, p impl.Program, words []impl.Ins, most int, count map[bool]int) {
	code := p.Blocks[1].Code
	for _, n := range words {
		p.Blocks[1].Code = append(slices.Clone(code), n)
		count[wantStatesAsRaw(t, "grown", p, 1)]++
		if len(code)+1 < most && rawGoesOn(p, p.Blocks[1], most) {
			growBlocks(t, p, words, most, count)
		}
	}
	p.Blocks[1].Code = code
}

// TestEveryShortBlock: all code of a few instructions, against all paths.
func TestEveryShortBlock(t *testing.T) {
	for words, most := range map[string]int{
		"unit; int 0; raise; jump 2; jump 3; jump 4; if 2; if 3; if 5":                           7,
		"int 0; raise; try 2; try 3; try 4; try 5; try 6; done; if 4":                            7,
		"int 0; raise; return; set 0; get 0; if 3; jump 4; jump 5; if 5":                         7,
		"unit; int 0; raise; try 3; try 5; done; pair; set 0; jump 6":                            7,
		"int 0; raise; if 5; if 6; try 6; try 7; done; jump 5; add":                              8,
		"con 0 0; case 0 3 4; case 0 2 4; case 0 2 3; con 0 1; int 0; return; raise; set 0":      7,
		"lit; ref; read; write; arg; fst; snd; pair; call; self; close 1; close 2; int 0; raise": 5,
	} {
		p := impl.Program{
			Layouts: []impl.Layout{{Cons: [][]impl.Ty{nil, {tyInt}}}},
			Blocks:  []impl.Block{{Code: codeOf("unit; return")}, {Arg: tyOf(impl.TyPair, inRef(tyInt), tyInt), Res: tyInt, Locals: []impl.Ty{tyInt}}, {Env: []impl.Ty{tyText}, Arg: tyText, Code: codeOf("unit; return")}},
		}
		count := map[bool]int{}
		growBlocks(t, p, codeOf(words), most, count)
		if count[true] < 150 || count[false] < 4000 {
			t.Errorf("the test's own code: %s: %v", words, count)
		}
	}
}

// A coder puts code together that has states, in the block n of p; set are the Locals that are set.
type coder struct {
	w   *walk
	p   *impl.Program
	n   int
	set []bool
}

func (c *coder) block() *impl.Block { return &c.p.Blocks[c.n] }

// emit answers the place of the instruction, which may be put right by its Ins.
func (c *coder) emit(op int, a int) int {
	b := c.block()
	b.Code = append(b.Code, impl.Ins{Op: op, A: a})
	return len(b.Code) - 1
}

func (c *coder) here() int { return len(c.block().Code) }

// comesHere puts the A of what was emitted right.
func (c *coder) comesHere(place int) { c.block().Code[place].A = c.here() }

// store takes what is on top into a local of its type.
func (c *coder) store(ty impl.Ty) {
	b := c.block()
	local := slices.IndexFunc(b.Locals, func(other impl.Ty) bool { return rawSame(other, ty) })
	if local < 0 || len(b.Locals) < 8 && c.w.below(2) == 0 {
		local = len(b.Locals)
		b.Locals = append(b.Locals, ty)
		c.set = append(c.set, false)
	}
	c.emit(impl.InSet, local)
	c.set[local] = true
}

// ways calls each of these with what is set now; behind them is set what all have set.
func (c *coder) ways(each ...func()) {
	was := slices.Clone(c.set)
	var all []bool
	for i, way := range each {
		c.set = slices.Clone(was)
		way()
		for len(all) < len(c.set) {
			// A local that is new on this way was not set on those ahead.
			all = append(all, i == 0)
		}
		for k := range all {
			all[k] = all[k] && k < len(c.set) && c.set[k]
		}
		for len(was) < len(c.set) {
			was = append(was, false)
		}
	}
	c.set = all
}

// plain puts a value of a type on the stack by as few as can be.
func (c *coder) plain(ty impl.Ty) {
	b := c.block()
	for i, other := range b.Locals {
		if c.set[i] && rawSame(other, ty) && c.w.below(3) > 0 {
			c.emit(impl.InGet, i)
			return
		}
	}
	for i, other := range b.Env {
		if rawSame(other, ty) && c.w.below(3) > 0 {
			c.emit(impl.InEnv, i)
			return
		}
	}
	switch {
	case rawSame(ty, b.Arg):
		c.emit(impl.InArg, 0)
	case rawSame(ty, tyOf(impl.TyFun, b.Arg, b.Res)):
		c.emit(impl.InSelf, 0)
	case ty.Kind == impl.TyUnit:
		c.emit(impl.InUnit, 0)
	case ty.Kind == impl.TyInt:
		c.emit(impl.InInt, c.w.below(20)-10)
	case ty.Kind == impl.TyText:
		c.emit(impl.InLit, 0)
	case ty.Kind == impl.TyPair:
		c.plain(ty.Args[0])
		c.plain(ty.Args[1])
		c.emit(impl.InPair, 0)
	case ty.Kind == impl.TyRef:
		c.plain(ty.Args[0])
		c.emit(impl.InRef, 0)
	default:
		// Whatever the type is, what a block gives that raises is of it.
		c.p.Blocks = append(c.p.Blocks, impl.Block{Res: ty, Code: codeOf("int 0; raise")})
		c.emit(impl.InClose, len(c.p.Blocks)-1)
		c.emit(impl.InUnit, 0)
		c.emit(impl.InCall, 0)
	}
}

// value puts a value of a type on the stack.
func (c *coder) value(ty impl.Ty, depth int) {
	some := func() impl.Ty { return c.w.someLow(1+c.w.below(2), len(c.p.Layouts)) }
	if depth <= 0 {
		c.plain(ty)
		return
	}
	switch c.w.below(14) {
	case 0:
		c.plain(ty)
	case 1:
		other := some()
		c.value(other, depth-1)
		c.store(other)
		c.value(ty, depth-1)
	case 2, 3:
		c.choice(ty, depth-1)
	case 4, 5:
		c.attempt(ty, depth-1)
	case 6:
		if len(c.p.Layouts) > 0 {
			c.match(ty, depth-1)
		} else {
			c.plain(ty)
		}
	case 7:
		if c.w.below(2) == 0 {
			c.value(tyOf(impl.TyPair, ty, some()), depth-1)
			c.emit(impl.InFst, 0)
		} else {
			c.value(tyOf(impl.TyPair, some(), ty), depth-1)
			c.emit(impl.InSnd, 0)
		}
	case 8:
		c.value(inRef(ty), depth-1)
		c.emit(impl.InRead, 0)
	case 9:
		arg := some()
		c.value(tyOf(impl.TyFun, arg, ty), depth-1)
		c.value(arg, depth-1)
		c.emit(impl.InCall, 0)
	case 10:
		// One way does not come behind.
		c.value(tyInt, depth-1)
		on := c.emit(impl.InIf, 0)
		was := slices.Clone(c.set)
		c.value(tyInt, depth-1)
		c.emit(impl.InRaise, 0)
		c.set = append(was, make([]bool, len(c.set)-len(was))...)
		c.comesHere(on)
		c.value(ty, depth-1)
	default:
		c.made(ty, depth-1)
	}
}

// made puts a value together by an op of its own kind.
func (c *coder) made(ty impl.Ty, depth int) {
	values := func(types ...impl.Ty) {
		for _, other := range types {
			c.value(other, depth)
		}
	}
	switch ty.Kind {
	case impl.TyUnit:
		switch c.w.below(3) {
		case 0:
			other := c.w.someLow(2, len(c.p.Layouts))
			values(inRef(other), other)
			c.emit(impl.InWrite, 0)
		case 1:
			values(tyText)
			c.emit(impl.InForeign, impl.CapPrint)
		case 2:
			values(tyInt, tyInt)
			c.emit(impl.InForeign, impl.CapPut)
		}
	case impl.TyInt:
		switch c.w.below(4) {
		case 0:
			values(tyText)
			c.emit(impl.InLen, 0)
		case 1:
			c.emit(impl.InForeign, impl.CapTick)
		case 2:
			values(tyInt)
			c.emit(impl.InForeign, pick(c.w, []int{impl.CapDraw, impl.CapGet}))
		default:
			values(tyInt, tyInt)
			c.emit(pick(c.w, []int{impl.InAdd, impl.InSub, impl.InMul, impl.InLess, impl.InSame}), 0)
		}
	case impl.TyText:
		values(tyText, tyText)
		c.emit(impl.InCat, 0)
	case impl.TyPair:
		values(ty.Args...)
		c.emit(impl.InPair, 0)
	case impl.TyRef:
		values(ty.Args...)
		c.emit(impl.InRef, 0)
	case impl.TyData:
		con := c.w.below(len(c.p.Layouts[ty.N].Cons))
		values(c.p.Layouts[ty.N].Cons[con]...)
		c.block().Code[c.emit(impl.InCon, ty.N)].B = con
	case impl.TyFun:
		c.closure(ty, depth)
	}
}

// closure makes a new block and closes it.
func (c *coder) closure(ty impl.Ty, depth int) {
	env := c.w.someLows(2, len(c.p.Layouts))
	c.p.Blocks = append(c.p.Blocks, impl.Block{Env: env, Arg: ty.Args[0], Res: ty.Args[1]})
	inner := &coder{w: c.w, p: c.p, n: len(c.p.Blocks) - 1}
	inner.body(depth)
	for _, other := range env {
		c.value(other, depth-1)
	}
	c.emit(impl.InClose, inner.n)
}

func (c *coder) choice(ty impl.Ty, depth int) {
	c.value(tyInt, depth)
	var end int
	on := c.emit(impl.InIf, 0)
	c.ways(func() {
		c.value(ty, depth)
		end = c.emit(impl.InJump, 0)
	}, func() {
		c.comesHere(on)
		c.value(ty, depth)
	})
	c.comesHere(end)
}

func (c *coder) attempt(ty impl.Ty, depth int) {
	var end int
	out := c.emit(impl.InTry, 0)
	c.ways(func() {
		c.value(ty, depth)
		c.emit(impl.InDone, 0)
		end = c.emit(impl.InJump, 0)
	}, func() {
		c.comesHere(out)
		if ty.Kind == impl.TyInt && c.w.below(2) == 0 {
			return
		}
		c.store(tyInt)
		c.value(ty, depth)
	})
	c.comesHere(end)
}

func (c *coder) match(ty impl.Ty, depth int) {
	layout := c.w.below(len(c.p.Layouts))
	c.value(tyData(layout), depth)
	at := c.emit(impl.InCase, layout)
	var ways []func()
	var ends []int
	for _, fields := range c.p.Layouts[layout].Cons {
		ways = append(ways, func() {
			c.block().Code[at].To = append(c.block().Code[at].To, c.here())
			for _, field := range slices.Backward(fields) {
				c.store(field)
			}
			c.value(ty, depth)
			ends = append(ends, c.emit(impl.InJump, 0))
		})
	}
	c.ways(ways...)
	for _, end := range ends {
		c.comesHere(end)
	}
}

// body is all code of a block: it returns, here or there, or raises.
func (c *coder) body(depth int) {
	switch {
	case depth > 0 && c.w.below(3) == 0:
		c.value(tyInt, depth-1)
		on := c.emit(impl.InIf, 0)
		c.ways(func() { c.body(depth - 1) }, func() {
			c.comesHere(on)
			c.body(depth - 1)
		})
	case c.w.below(8) == 0:
		c.value(tyInt, depth)
		c.emit(impl.InRaise, 0)
	default:
		c.value(c.block().Res, depth)
		c.emit(impl.InReturn, 0)
	}
}

// someAccepted is a program that is accepted with its Caps.
func (w *walk) someAccepted(depth int) impl.Program {
	var p impl.Program
	layouts := w.below(4)
	for range layouts {
		var layout impl.Layout
		for range 1 + w.below(3) {
			layout.Cons = append(layout.Cons, w.someLows(impl.MaxFields, layouts))
		}
		p.Layouts = append(p.Layouts, layout)
	}
	p.Blocks = []impl.Block{{Res: w.someLow(2, layouts)}}
	c := &coder{w: w, p: &p}
	c.body(depth)
	p.Caps = rawCapsOf(p)
	return p
}

// TestManyAcceptedPrograms: with tries, alts and blocks one within the other.
func TestManyAcceptedPrograms(t *testing.T) {
	w := &walk{state: 91}
	ops, longest, blocks, tries := map[int]int{}, 0, 0, 0
	for range 600 {
		p := w.someAccepted(1 + w.below(5))
		if !wantCheckAsRaw(t, "made to be accepted", p) {
			t.Fatalf("the test's own program: %v", p)
		}
		for n, b := range p.Blocks {
			wantStatesAsRaw(t, "made to be accepted", p, n)
			longest = max(longest, len(b.Code))
			states, _ := impl.States(p, n)
			for i, ins := range b.Code {
				ops[ins.Op]++
				tries = max(tries, len(states[i].Tries))
			}
		}
		blocks = max(blocks, len(p.Blocks))
	}
	if len(ops) != impl.InForeign+1 || longest < 150 || blocks < 20 || tries < 3 {
		t.Errorf("the test's own programs: %d ops, %d instructions, %d blocks, %d tries", len(ops), longest, blocks, tries)
	}
}

// moved answers code with all that it comes to from a place on put that much further.
func moved(code []impl.Ins, from int, by int) []impl.Ins {
	code = slices.Clone(code)
	for i, n := range code {
		if n.Op == impl.InJump || n.Op == impl.InIf || n.Op == impl.InTry {
			if n.A >= from {
				code[i].A = max(0, n.A+by)
			}
		}
		code[i].To = slices.Clone(n.To)
		for k, to := range n.To {
			if to >= from {
				code[i].To[k] = max(0, to+by)
			}
		}
	}
	return code
}

// turnedIns is n with a part that is another one, or another instruction.
func (w *walk) turnedIns(n impl.Ins, count int) impl.Ins {
	n.To = slices.Clone(n.To)
	has := opHas(n.Op)
	switch {
	case w.below(3) == 0 || has == "" || has == "L" || has == "I":
		n = impl.Ins{Op: w.below(impl.InForeign + 1)}
		switch opHas(n.Op) {
		case "A", "AB", "AT":
			n.A = w.below(pick(w, []int{2, 4, count + 2}))
		}
		for range map[string]int{"AT": 1 + w.below(3)}[opHas(n.Op)] {
			n.To = append(n.To, w.below(count+1))
		}
	case has == "AT" && w.below(4) > 0:
		i := w.below(len(n.To))
		switch w.below(4) {
		case 0:
			n.To[i] = w.below(count + 1)
		case 1:
			n.To[i] = n.To[w.below(len(n.To))]
		case 2:
			n.To = slices.Delete(n.To, i, i+min(1, len(n.To)-1))
		default:
			n.To[i] = max(0, n.To[i]+w.below(3)-1)
		}
	case has == "AB" && w.below(2) == 0:
		n.B = w.below(4)
	case w.below(2) == 0:
		n.A = max(0, n.A+w.below(3)-1)
	default:
		n.A = w.below(count + 1)
	}
	return n
}

// turnedBlock is b with one thing that is another.
func (w *walk) turnedBlock(b impl.Block, layouts int) impl.Block {
	b.Code, b.Env, b.Locals = slices.Clone(b.Code), slices.Clone(b.Env), slices.Clone(b.Locals)
	at := w.below(len(b.Code))
	other := w.someLow(1+w.below(2), layouts)
	switch w.below(12) {
	case 0:
		b.Code = slices.Delete(b.Code, at, at+min(1, len(b.Code)-1))
	case 1:
		b.Code = slices.Delete(moved(b.Code, at+1, -1), at, at+min(1, len(b.Code)-1))
	case 2:
		b.Code = slices.Insert(b.Code, at, w.turnedIns(b.Code[at], len(b.Code)))
	case 3:
		// One that a jump comes behind of, or ahead of.
		b.Code = slices.Insert(moved(b.Code, at+w.below(2), 1), at, w.turnedIns(b.Code[at], len(b.Code)))
	case 4:
		more := min(at+1, len(b.Code)-1)
		b.Code[at], b.Code[more] = b.Code[more], b.Code[at]
	case 5:
		if len(b.Locals) > 0 {
			b.Locals[w.below(len(b.Locals))] = other
		}
	case 6:
		if len(b.Env) > 0 {
			b.Env[w.below(len(b.Env))] = other
		} else {
			b.Arg = other
		}
	case 7:
		b.Res = other
	default:
		b.Code[at] = w.turnedIns(b.Code[at], len(b.Code))
	}
	return b
}

// TestManyTurnedPrograms: accepted ones with one thing or two turned, in one block.
func TestManyTurnedPrograms(t *testing.T) {
	w := &walk{state: 92}
	count, accepted := map[bool]int{}, map[bool]int{}
	for range 1500 {
		p := w.someAccepted(1 + w.below(3))
		for range 5 {
			turned := copyProgram(p)
			n := w.below(len(p.Blocks))
			for range 1 + w.below(2) {
				turned.Blocks[n] = w.turnedBlock(turned.Blocks[n], len(p.Layouts))
			}
			count[wantStatesAsRaw(t, "turned", turned, n)]++
			// What closes it may have no states then.
			for k := range turned.Blocks {
				wantStatesAsRaw(t, "turned", turned, k)
			}
			if w.below(10) == 0 {
				if w.below(2) == 0 {
					turned.Caps = rawCapsOf(turned)
				}
				accepted[wantCheckAsRaw(t, "turned", turned)]++
			}
		}
	}
	if count[true] < 500 || count[false] < 3000 || accepted[true] < 50 || accepted[false] < 300 {
		t.Errorf("the test's own blocks: %v; programs: %v", count, accepted)
	}
}

// TestManyLists: code without any form, of which little is ever reached.
func TestManyLists(t *testing.T) {
	w := &walk{state: 93}
	for range 4000 {
		p := w.someProgram()
		for n := range p.Blocks {
			wantStatesAsRaw(t, "without form", p, n)
		}
		if w.below(20) == 0 {
			wantCheckAsRaw(t, "without form", p)
		}
	}
}

// greatBlock has a high stack of great types, on which two come to one again and again: with one stack.
func greatBlock() impl.Block {
	code := codeOf(fmt.Sprint(impl.MaxStack-1, "*arg"))
	for len(code) < impl.MaxCode-3 {
		code = append(code, impl.Ins{Op: impl.InInt}, impl.Ins{Op: impl.InIf, A: len(code) + 2})
	}
	return impl.Block{Arg: fieldOf(58), Code: append(code, codeOf("int 0; raise")...)}
}

// greatHalves is such a block, where both made their stacks by themselves.
func greatHalves() impl.Block {
	const high, forks = 150, 90
	const half = high + 2*forks + 1
	code := codeOf(fmt.Sprint("int 1; if ", 2+half))
	for range 2 {
		code = append(code, codeOf(fmt.Sprint(high, "*arg"))...)
		for i := range forks {
			code = append(code, impl.Ins{Op: impl.InInt}, impl.Ins{Op: impl.InIf, A: 2 + 2*half + 2*i})
		}
		code = append(code, impl.Ins{Op: impl.InJump, A: 2 + 2*half})
	}
	return impl.Block{Arg: fieldOf(58), Code: append(code, slices.Repeat(codeOf("int 0; raise"), forks)...)}
}

// TestGreatPrograms: as many blocks as MaxBytes leave room for, the last one of which has one thing turned.
func TestGreatPrograms(t *testing.T) {
	for what, b := range map[string]impl.Block{"one stack": greatBlock(), "stacks apart": greatHalves()} {
		p := oneBlock(impl.Block{Code: codeOf("unit; return")})
		for impl.ProgramOk(p) {
			p.Blocks = append(p.Blocks, b)
		}
		p.Blocks = p.Blocks[:len(p.Blocks)-1]
		if !impl.Check(p, nil) || len(p.Blocks) < 10 {
			t.Errorf("%s: refused, %d blocks", what, len(p.Blocks))
		}
		last := &p.Blocks[len(p.Blocks)-1]
		last.Code = slices.Clone(last.Code)
		last.Code[len(last.Code)-4].Op = impl.InJump
		if impl.Check(p, nil) {
			t.Errorf("%s: accepted with one thing turned", what)
		}
	}
}

func (r *roll) states(list []impl.State) {
	enrol(r, list, func(impl.State) bool { return true })
	for _, s := range list {
		enrol(r, s.Set, func(bool) bool { return true })
		enrol(r, s.Tries, func(impl.Try) bool { return true })
		r.ty(impl.Ty{Args: s.Stack})
	}
}

// spoilStates writes over all that can be reached by the states, the room behind them, too.
func spoilStates(list []impl.State) {
	for _, s := range list {
		scribbleTy(impl.Ty{Args: s.Stack})
		for i := range s.Set[:cap(s.Set)] {
			s.Set[:cap(s.Set)][i] = true
		}
		for i := range s.Tries[:cap(s.Tries)] {
			s.Tries[:cap(s.Tries)][i] = impl.Try{To: spareWord, Height: spareWord}
		}
	}
	for i := range list[:cap(list)] {
		list[:cap(list)][i] = impl.State{}
	}
}

// checkedPrograms are such as are accepted, and such as are not.
func checkedPrograms() []impl.Program {
	w := &walk{state: 94}
	list := []impl.Program{acceptedEvery(), scene(manyTries(20, "int 5; set 0; ")), scene("env 3; env 8; env 5; int 1; if on; on: pair; int 0; raise"), oneBlock(impl.Block{Code: codeOf("unit; return")})}
	for range 60 {
		p := w.someAccepted(1 + w.below(4))
		list = append(list, p)
		turned := copyProgram(p)
		n := w.below(len(p.Blocks))
		turned.Blocks[n] = w.turnedBlock(turned.Blocks[n], len(p.Layouts))
		list = append(list, turned)
	}
	return append(list, memoryPrograms()...)
}

// sayChecked says all that the checker tells of a program.
func sayChecked(p impl.Program, grants []int) string {
	said := fmt.Sprint(impl.Check(p, grants))
	for n := range p.Blocks {
		list, ok := impl.States(p, n)
		said += fmt.Sprint(n, ok, sayStates(list))
	}
	return said
}

// TestCheckingChangesNoProgram: nothing is written into a program or the grants nor behind their lists, what lies there is not read,
// and no answer shares memory.
func TestCheckingChangesNoProgram(t *testing.T) {
	isSpare := func(kind int) bool { return kind == spareWord }
	for i, p := range checkedPrograms() {
		plain, was := sayChecked(p, p.Caps), slices.Clone(p.Caps)
		arg, grants := roomyProgram(p), withSpare(was, spareWord)
		if sayChecked(arg, grants) != plain {
			t.Errorf("program %d: what lies behind a list was read", i)
		}
		all := newRoll()
		all.program(arg)
		enrol(all, grants, isSpare)
		if all.spoilt || !sameProgram(arg, p) || !slices.Equal(grants, was) {
			t.Errorf("program %d: an argument was changed", i)
		}
		var answers [][]impl.State
		for n := range arg.Blocks {
			for range 2 {
				list, _ := impl.States(arg, n)
				all.states(list)
				answers = append(answers, list)
			}
		}
		if all.shared {
			t.Errorf("program %d: an answer shares memory", i)
		}
		spoilProgram(arg)
		for k, list := range answers {
			if want, _ := impl.States(p, k/2); !slices.Equal(sayStates(list), sayStates(want)) {
				t.Errorf("program %d: an answer changes with the program", i)
			}
		}
		for _, list := range answers {
			spoilStates(list)
		}
		if sayChecked(p, p.Caps) != plain {
			t.Errorf("program %d: an answer was kept", i)
		}
	}
}

// TestGrantsBehindTheirLength: what lies there grants nothing.
func TestGrantsBehindTheirLength(t *testing.T) {
	p := oneBlock(impl.Block{Res: tyInt, Code: codeOf("foreign 1; return")})
	p.Caps = []int{1}
	b, _ := impl.CodeBytes(p)
	for size := range 4 {
		grants := []int{0, 4, 1, 2}
		if ok := size > 2; impl.Check(p, grants[:size]) != ok || impl.CheckBytes(b, grants[:size]) != ok || !slices.Equal(grants, []int{0, 4, 1, 2}) {
			t.Errorf("%d grants: not %v", size, ok)
		}
	}
	p.Caps = []int{1, 2}[:1]
	if !impl.Check(p, []int{1}) {
		t.Error("Caps behind their length are asked for")
	}
}

// TestProgramsWhosePartsShareChecked: the states of lists that stand in several places have each its own.
func TestProgramsWhosePartsShareChecked(t *testing.T) {
	pair := tyOf(impl.TyPair, tyInt, tyText)
	types := []impl.Ty{pair, pair}
	b := impl.Block{Env: types, Locals: types, Arg: pair, Res: pair, Code: codeOf("arg; env 0; env 1; self; env 1; set 1; get 1; get 1; pair; int 0; raise")}
	p := impl.Program{Layouts: []impl.Layout{{Cons: [][]impl.Ty{types, types}}}, Blocks: []impl.Block{{Code: codeOf("unit; return")}, b, b}}
	list, ok := impl.States(p, 2)
	all := newRoll()
	if all.states(list); !ok || all.shared {
		t.Error("parts that share:", ok, all.shared)
	}
	spoilStates(list)
	if again, ok := impl.States(p, 1); !ok || sayState(again[1]) != "00|(pair int text)|" {
		t.Error("what was told is kept:", sayStates(again))
	}
}

// TestCheckBytesChangesNothing: the bytes, the grants, and the room behind them.
func TestCheckBytesChangesNothing(t *testing.T) {
	for i, p := range checkedPrograms() {
		b, ok := impl.CodeBytes(p)
		if !ok {
			continue
		}
		for _, size := range []int{len(b), len(b) - 1, len(b) / 2, 0} {
			arg, grants := roomy(string(b[:size])), withSpare(p.Caps, spareWord)
			if got := impl.CheckBytes(arg, grants); got != (size == len(b) && impl.Check(p, p.Caps)) {
				t.Errorf("program %d, %d bytes: %v", i, size, got)
			}
			wantRoomy(t, fmt.Sprint("program ", i), arg, string(b[:size]))
			all := newRoll()
			if enrol(all, grants, func(kind int) bool { return kind == spareWord }); all.spoilt || !slices.Equal(grants, p.Caps) {
				t.Errorf("program %d: the grants were changed", i)
			}
		}
	}
}

func TestCheckedByManyAtOnce(t *testing.T) {
	programs := checkedPrograms()
	var plain []string
	for _, p := range programs {
		plain = append(plain, sayChecked(p, p.Caps))
	}
	var all sync.WaitGroup
	wrong := make([]int, 8)
	for worker := range wrong {
		all.Go(func() {
			for i, p := range programs {
				if sayChecked(p, p.Caps) != plain[i] {
					wrong[worker]++
				}
			}
		})
	}
	all.Wait()
	if !filled(wrong, 0) {
		t.Error("wrong answers:", wrong)
	}
}
