package tests

import (
	"fmt"
	"slices"
	"strings"
	"testing"

	"loop.example/g00293/impl"
)

// A guess is a type that is found by links from guess to guess. What is for all is told by levels:
// a variable is of the level of the let or rec within which it came up, or of the outermost one whose types it came into.
type guess struct {
	kind, n int
	args    []*guess
	is      *guess
	level   int
}

func (g *guess) end() *guess {
	for g.is != nil {
		g = g.is
	}
	return g
}

func guessOf(kind int, args ...*guess) *guess {
	return &guess{kind: kind, args: args}
}

// A guessed is a term whose types are guesses; bound are the types at which it binds names.
type guessed struct {
	e     impl.Expr
	ty    *guess
	quant []*guess
	inst  []*guess
	bound []*guess
	parts []*guessed
}

type guessName struct {
	name  string
	ty    *guess
	quant []*guess
}

// A guesser panics with clash where something can't be.
type guesser struct {
	datas []impl.Data
	level int
	steps int
}

type clash struct{}

// enough gives up on types that are far too large.
func (g *guesser) enough() {
	g.steps++
	if g.steps > 200000 {
		panic(clash{})
	}
}

func (g *guesser) fresh() *guess {
	return &guess{kind: impl.TyVar, level: g.level}
}

func (g *guesser) same(a *guess, b *guess) {
	g.enough()
	a, b = a.end(), b.end()
	switch {
	case a == b:
	case a.kind == impl.TyVar:
		g.sink(a, b)
		a.is = b
	case b.kind == impl.TyVar:
		g.same(b, a)
	case a.kind != b.kind || a.n != b.n || len(a.args) != len(b.args):
		panic(clash{})
	default:
		for i := range a.args {
			g.same(a.args[i], b.args[i])
		}
	}
}

// sink looks for v within t, and brings all variables there to its level.
func (g *guesser) sink(v *guess, t *guess) {
	g.enough()
	t = t.end()
	if t == v {
		panic(clash{})
	}
	if t.kind == impl.TyVar {
		t.level = min(t.level, v.level)
	}
	for _, arg := range t.args {
		g.sink(v, arg)
	}
}

// put answers a type of a data's Field with guesses for its variables.
func (g *guesser) put(ty impl.Ty, inst []*guess) *guess {
	if ty.Kind == impl.TyVar {
		return inst[ty.N]
	}
	got := &guess{kind: ty.Kind, n: ty.N}
	for _, arg := range ty.Args {
		got.args = append(got.args, g.put(arg, inst))
	}
	return got
}

// another answers t with inst for quant.
func (g *guesser) another(t *guess, quant []*guess, inst []*guess) *guess {
	g.enough()
	t = t.end()
	if at := slices.Index(quant, t); at >= 0 {
		return inst[at]
	}
	if t.kind == impl.TyVar {
		return t
	}
	got := &guess{kind: t.kind, n: t.n}
	for _, arg := range t.args {
		got.args = append(got.args, g.another(arg, quant, inst))
	}
	return got
}

// above puts behind list the variables of t that are above the level, as they come.
func (g *guesser) above(list []*guess, t *guess) []*guess {
	g.enough()
	t = t.end()
	if t.kind == impl.TyVar && t.level > g.level && !slices.Contains(list, t) {
		list = append(list, t)
	}
	for _, arg := range t.args {
		list = g.above(list, arg)
	}
	return list
}

func rawValueExpr(e impl.Expr) bool {
	switch e.Kind {
	case impl.ExPair, impl.ExCon:
		return !slices.ContainsFunc(e.Kids, func(kid impl.Expr) bool { return !rawValueExpr(kid) })
	}
	return e.Kind <= impl.ExFn
}

// part guesses a part of x, and has it behind the others.
func (g *guesser) part(x *guessed, e impl.Expr, names []guessName) *guess {
	part := g.guess(e, names)
	x.parts = append(x.parts, part)
	return part.ty
}

func (g *guesser) guess(e impl.Expr, names []guessName) *guessed {
	x := &guessed{e: e}
	with := func(name []byte, ty *guess, quant []*guess) []guessName {
		x.bound = append(x.bound, ty)
		return append(slices.Clone(names), guessName{string(name), ty, quant})
	}
	num := guessOf(impl.TyInt)
	switch e.Kind {
	case impl.ExVar:
		for _, name := range names {
			if name.name == string(e.Name) {
				x.inst = nil
				for range name.quant {
					x.inst = append(x.inst, g.fresh())
				}
				x.ty = g.another(name.ty, name.quant, x.inst)
			}
		}
	case impl.ExFn:
		arg := g.fresh()
		x.ty = guessOf(impl.TyFun, arg, g.part(x, e.Kids[0], with(e.Name, arg, nil)))
	case impl.ExLet:
		value := rawValueExpr(e.Kids[0])
		if value {
			g.level++
		}
		first := g.part(x, e.Kids[0], names)
		if value {
			g.level--
			x.quant = g.above(nil, first)
		}
		x.ty = g.part(x, e.Kids[1], with(e.Name, first, x.quant))
	case impl.ExRec:
		g.level++
		arg, res := g.fresh(), g.fresh()
		f := guessOf(impl.TyFun, arg, res)
		inner := append(with(e.Name, f, nil), guessName{string(e.Arg), arg, nil})
		g.same(res, g.part(x, e.Kids[0], inner))
		g.level--
		x.inst, x.quant = []*guess{f}, g.above(nil, f)
		x.ty = g.part(x, e.Kids[1], with(e.Name, f, x.quant))
	case impl.ExTry:
		x.ty = g.part(x, e.Kids[0], names)
		g.same(x.ty, g.part(x, e.Kids[1], with(e.Name, num, nil)))
	case impl.ExMatch:
		g.match(x, e, names)
	default:
		var kids []*guess
		for _, kid := range e.Kids {
			kids = append(kids, g.part(x, kid, names))
		}
		g.plain(x, e, kids)
	}
	return x
}

func (g *guesser) match(x *guessed, e impl.Expr, names []guessName) {
	_, home := rawFields(g.datas, e.Arms[0].Con)
	for range g.datas[home].Vars {
		x.inst = append(x.inst, g.fresh())
	}
	x.ty = g.fresh()
	g.same(g.part(x, e.Kids[0], names), &guess{kind: impl.TyData, n: home, args: x.inst})
	for _, a := range e.Arms {
		inner := slices.Clone(names)
		for _, c := range g.datas[home].Cons {
			for i := 0; sameText(c.Name, a.Con) && i < len(a.Vars); i++ {
				field := g.put(c.Fields[i], x.inst)
				x.bound = append(x.bound, field)
				inner = append(inner, guessName{string(a.Vars[i]), field, nil})
			}
		}
		g.same(x.ty, g.part(x, a.Body, inner))
	}
}

// plain is of the kinds that bind nothing.
func (g *guesser) plain(x *guessed, e impl.Expr, kids []*guess) {
	unit, num, text := guessOf(impl.TyUnit), guessOf(impl.TyInt), guessOf(impl.TyText)
	a, b := g.fresh(), g.fresh()
	gives := func(ty *guess, takes ...*guess) {
		for i, kid := range kids {
			g.same(kid, takes[i])
		}
		x.ty = ty
	}
	switch e.Kind {
	case impl.ExUnit:
		gives(unit)
	case impl.ExInt:
		gives(num)
	case impl.ExText:
		gives(text)
	case impl.ExApp:
		gives(a, guessOf(impl.TyFun, kids[1], a), kids[1])
	case impl.ExIf:
		gives(a, num, a, a)
	case impl.ExPair:
		gives(guessOf(impl.TyPair, kids...), kids...)
	case impl.ExFst:
		gives(a, guessOf(impl.TyPair, a, b))
	case impl.ExSnd:
		gives(b, guessOf(impl.TyPair, a, b))
	case impl.ExRef:
		gives(guessOf(impl.TyRef, a), a)
	case impl.ExRead:
		gives(a, guessOf(impl.TyRef, a))
	case impl.ExWrite:
		gives(unit, guessOf(impl.TyRef, kids[1]), kids[1])
	case impl.ExRaise:
		gives(a, num)
	case impl.ExCon:
		g.con(x, e, kids)
	case impl.ExOp:
		switch e.N {
		case impl.OpCat:
			gives(text, text, text)
		case impl.OpLen:
			gives(num, text)
		default:
			gives(num, num, num)
		}
	case impl.ExCall:
		gives([]*guess{unit, num, num, num, unit}[e.N], []*guess{text, num, num, num, num}[e.N], num)
	}
}

func (g *guesser) con(x *guessed, e impl.Expr, kids []*guess) {
	_, home := rawFields(g.datas, e.Name)
	for range g.datas[home].Vars {
		x.inst = append(x.inst, g.fresh())
	}
	for _, c := range g.datas[home].Cons {
		for i := 0; sameText(c.Name, e.Name) && i < len(kids); i++ {
			g.same(kids[i], g.put(c.Fields[i], x.inst))
		}
	}
	x.ty = &guess{kind: impl.TyData, n: home, args: x.inst}
}

// final answers a type, its variables numbered, or unit.
func (g *guesser) final(t *guess, numbers map[*guess]int) impl.Ty {
	g.enough()
	t = t.end()
	if t.kind == impl.TyVar {
		if n, ok := numbers[t]; ok {
			return tyVar(n)
		}
		return tyUnit
	}
	got := impl.Ty{Kind: t.kind, N: t.n}
	for _, arg := range t.args {
		got.Args = append(got.Args, g.final(arg, numbers))
	}
	if !rawOk(got) {
		panic(clash{})
	}
	return got
}

// term answers x as a term, what is for all being numbered as it comes.
func (g *guesser) term(x *guessed, numbers map[*guess]int) impl.Term {
	e := x.e
	t := impl.Term{Kind: e.Kind, N: e.N, Name: e.Name, Arg: e.Arg, Lit: e.Lit}
	for _, v := range x.quant {
		number := len(numbers)
		numbers[v.end()] = number
		t.Quant = append(t.Quant, number)
	}
	for _, ty := range x.bound {
		g.final(ty, numbers)
	}
	t.Ty = g.final(x.ty, numbers)
	for _, ty := range x.inst {
		t.Inst = append(t.Inst, g.final(ty, numbers))
	}
	if e.Kind == impl.ExCon {
		t.Name, t.N, t.Con = nil, t.Ty.N, g.conPlace(t.Ty.N, e.Name)
	}
	for _, part := range x.parts[:len(e.Kids)] {
		t.Kids = append(t.Kids, g.term(part, numbers))
	}
	for i, part := range x.parts[len(e.Kids):] {
		t.N = t.Kids[0].Ty.N
		t.Alts = append(t.Alts, impl.Alt{Con: g.conPlace(t.N, e.Arms[i].Con), Vars: e.Arms[i].Vars, Body: g.term(part, numbers)})
	}
	return t
}

func (g *guesser) conPlace(data int, name []byte) int {
	return slices.IndexFunc(g.datas[data].Cons, func(c impl.Con) bool { return sameText(c.Name, name) })
}

// rawInfer tells what Infer must, by guesses.
func rawInfer(s impl.Source) (t impl.Term, code int) {
	switch {
	case !rawSourceOk(s):
		return impl.Term{}, impl.TypeForm
	case !rawNamesOk(s):
		return impl.Term{}, impl.TypeName
	case !rawArmsOk(s):
		return impl.Term{}, impl.TypeArms
	}
	defer func() {
		if why := recover(); why != nil {
			if _, ok := why.(clash); !ok {
				panic(why)
			}
			t, code = impl.Term{}, impl.TypeClash
		}
	}()
	g := &guesser{datas: s.Datas}
	return g.term(g.guess(s.Body, nil), map[*guess]int{}), impl.TypeWell
}

// wantAsGuessed looks for what rawInfer tells, and for what the promise says of it; it answers the code.
func wantAsGuessed(t *testing.T, s impl.Source) int {
	t.Helper()
	want, wantCode := rawInfer(s)
	got, code := impl.Infer(s)
	if code != wantCode || !sameTerm(got, want) {
		t.Fatalf("%s: %d %s, not %d %s", rawPrint(s), code, sayTerm(got), wantCode, sayTerm(want))
	}
	if impl.NamesOk(s) != rawNamesOk(s) || impl.ArmsOk(s) != rawArmsOk(s) {
		t.Fatalf("%s: NamesOk %v, ArmsOk %v", rawPrint(s), impl.NamesOk(s), impl.ArmsOk(s))
	}
	if code == impl.TypeWell && (!impl.TermOk(s.Datas, got) || !namesNoMore(got) || !sameExpr(rawStrip(s.Datas, got), s.Body)) {
		t.Fatalf("%s: not TermOk, or another source: %s", rawPrint(s), sayTerm(got))
	}
	return code
}

func TestGuessesOfTheTexts(t *testing.T) {
	for _, text := range wellTexts {
		wantAsGuessed(t, behindData(t, text))
	}
	for _, s := range typeSources(t) {
		if rawExprOk(s.Body) {
			wantAsGuessed(t, s)
		}
	}
}

// everyExpr answers all expressions of each number of parts up to most, over a few words.
func everyExpr(most int, leaves []impl.Expr, wraps []func(impl.Expr) impl.Expr, joins []func(a, b impl.Expr) impl.Expr) [][]impl.Expr {
	all := [][]impl.Expr{nil, leaves}
	for parts := 2; parts <= most; parts++ {
		var list []impl.Expr
		for _, wrap := range wraps {
			for _, e := range all[parts-1] {
				list = append(list, wrap(e))
			}
		}
		for left := 1; left < parts-1; left++ {
			for _, join := range joins {
				for _, a := range all[left] {
					for _, b := range all[parts-1-left] {
						list = append(list, join(a, b))
					}
				}
			}
		}
		all = append(all, list)
	}
	return all
}

func wrapOf(kind int, name string) func(impl.Expr) impl.Expr {
	return func(e impl.Expr) impl.Expr { return exNamed(kind, name, e) }
}

func joinOf(kind int, name string, arg string) func(a, b impl.Expr) impl.Expr {
	return func(a, b impl.Expr) impl.Expr {
		return impl.Expr{Kind: kind, Name: []byte(name), Arg: []byte(arg), Kids: []impl.Expr{a, b}}
	}
}

// TestEverySmallSource: all sources of a few parts, over a few kinds at a time.
func TestEverySmallSource(t *testing.T) {
	x, y, one := exVar("x"), exVar("y"), exInt(1)
	fn, fst, cell := wrapOf(impl.ExFn, "x"), wrapOf(impl.ExFst, ""), wrapOf(impl.ExRef, "")
	app, pair := joinOf(impl.ExApp, "", ""), joinOf(impl.ExPair, "", "")
	let, rec := joinOf(impl.ExLet, "x", ""), joinOf(impl.ExRec, "x", "y")
	codes := map[int]int{}
	for _, c := range []struct {
		most   int
		leaves []impl.Expr
		wraps  []func(impl.Expr) impl.Expr
		joins  []func(a, b impl.Expr) impl.Expr
	}{
		{9, []impl.Expr{x}, []func(impl.Expr) impl.Expr{fn}, []func(a, b impl.Expr) impl.Expr{app, let}},
		{7, []impl.Expr{x, y}, []func(impl.Expr) impl.Expr{fn, wrapOf(impl.ExFn, "y")}, []func(a, b impl.Expr) impl.Expr{app, let, joinOf(impl.ExLet, "y", "")}},
		{7, []impl.Expr{x, one}, []func(impl.Expr) impl.Expr{fn}, []func(a, b impl.Expr) impl.Expr{app, let, pair}},
		{7, []impl.Expr{x, y}, []func(impl.Expr) impl.Expr{fn}, []func(a, b impl.Expr) impl.Expr{app, rec, let}},
		{6, []impl.Expr{x, y, one}, []func(impl.Expr) impl.Expr{fn, fst, cell}, []func(a, b impl.Expr) impl.Expr{app, rec, let, pair, joinOf(impl.ExTry, "y", "")}},
	} {
		for _, list := range everyExpr(c.most, c.leaves, c.wraps, c.joins) {
			for _, e := range list {
				if rawNamesIn(nil, e, nil) {
					codes[wantAsGuessed(t, bodyOnly(e))]++
				}
			}
		}
	}
	if codes[impl.TypeWell] < 3000 || codes[impl.TypeClash] < 3000 {
		t.Error("the test's own sources:", codes)
	}
}

// A made is a name of known type that a part may use.
type made struct {
	name string
	ty   impl.Ty
}

// polys are lets and recs of what is for all, and how to have a value of any type by them.
var polys = []struct{ begin, use string }{
	{"(let id (fn x x) %s)", "(id %s)"},
	{"(let k (fn x (fn y x)) %s)", "((k %s) unit)"},
	{"(let k (fn x (fn y x)) %s)", "((k %s) k)"},
	{"(let dup (fn x (pair x x)) %s)", "(fst (dup %s))"},
	{"(let swap (fn p (pair (snd p) (fst p))) %s)", "(snd (swap (pair %s 1)))"},
	{"(rec loop x (loop x) %s)", "(if 1 %s (loop unit))"},
	{"(rec same2 x (if 0 (same2 x) x) %s)", "(same2 %s)"},
	{"(let p (pair (fn x x) Nil) %s)", "((fst p) %s)"},
	{"(let nil Nil %s)", "(match (Cons %s nil) (Cons h r h) (Nil (raise 7)))"},
	{"(let g Ghost %s)", "(match g (Half h (raise 1)) (_ %s))"},
	{"(let r (fn x (read (ref x))) %s)", "(r %s)"},
	{"(let c (fn f (fn x (f x))) %s)", "((c (fn v v)) %s)"},
}

// typedText is the text of a part that has that type where the names are bound.
func (w *walk) typedText(depth int, ty impl.Ty, names []made) string {
	if depth > 1 && w.below(3) > 0 {
		return w.anyText(depth-1, ty, names)
	}
	for _, m := range slices.Backward(names) {
		if rawSame(m.ty, ty) && w.below(2) == 0 && w.isSeen(names, m) {
			return m.name
		}
	}
	part := func(ty impl.Ty) string { return w.typedText(depth-1, ty, names) }
	if depth <= 1 {
		return map[int]string{impl.TyUnit: "unit", impl.TyInt: "3", impl.TyText: `"t"`}[ty.Kind] + map[bool]string{true: "(raise 2)"}[ty.Kind > impl.TyText]
	}
	switch ty.Kind {
	case impl.TyUnit:
		return pick(w, []string{"unit", "(print " + part(tyText) + ")", "(put " + part(tyInt) + " 1)", "(write " + part(inRef(tyText)) + " " + part(tyText) + ")"})
	case impl.TyInt:
		return pick(w, []string{"5", "tick", "(add " + part(tyInt) + " " + part(tyInt) + ")", "(less 1 " + part(tyInt) + ")", "(len " + part(tyText) + ")", "(get " + part(tyInt) + ")"})
	case impl.TyText:
		return pick(w, []string{`"u"`, "(cat " + part(tyText) + " " + part(tyText) + ")"})
	case impl.TyPair:
		return bracket("pair", part(ty.Args[0]), part(ty.Args[1]))
	case impl.TyRef:
		return bracket("ref", part(ty.Args[0]))
	case impl.TyFun:
		name := pick(w, []string{"a", "b", "c"})
		return bracket("fn", name, w.typedText(depth-1, ty.Args[1], append(slices.Clone(names), made{name, ty.Args[0]})))
	}
	return w.conText(depth, ty, names)
}

// isSeen says whether no later name hides m.
func (w *walk) isSeen(names []made, m made) bool {
	for _, other := range slices.Backward(names) {
		if other.name == m.name {
			return rawSame(other.ty, m.ty)
		}
	}
	return false
}

// conText is of the datas of someData.
func (w *walk) conText(depth int, ty impl.Ty, names []made) string {
	part := func(ty impl.Ty) string { return w.typedText(depth-1, ty, names) }
	switch ty.N {
	case 0:
		return pick(w, []string{"Nil", "(Cons " + part(ty.Args[0]) + " " + part(ty) + ")"})
	case 1:
		return "(Both " + part(ty.Args[1]) + " " + part(ty.Args[0]) + ")"
	case 2:
		return pick(w, []string{"No", "Yes"})
	}
	return pick(w, []string{"Ghost", "(Half " + part(ty.Args[0]) + ")", "(Body " + part(tyInt) + " " + part(tyText) + ")"})
}

func (w *walk) smallTy(depth int) impl.Ty {
	if depth <= 1 || w.below(2) == 0 {
		return pick(w, []impl.Ty{tyUnit, tyInt, tyInt, tyText, tyData(2)})
	}
	a, b := w.smallTy(depth-1), w.smallTy(depth-1)
	return pick(w, []impl.Ty{tyOf(impl.TyPair, a, b), tyOf(impl.TyFun, a, b), inRef(a), tyData(0, a), tyData(1, a, b), tyData(3, a, b)})
}

// anyText is of a kind whose parts may be of any type.
func (w *walk) anyText(depth int, ty impl.Ty, names []made) string {
	part := func(ty impl.Ty) string { return w.typedText(depth-1, ty, names) }
	other := w.smallTy(3)
	name := pick(w, []string{"a", "b", "c"})
	with := func(ty impl.Ty, more ...made) string {
		return w.typedText(depth-1, ty, append(slices.Clone(names), more...))
	}
	switch w.below(12) {
	case 0:
		return bracket(part(tyOf(impl.TyFun, other, ty)), part(other))
	case 1:
		return bracket("let", name, part(other), with(ty, made{name, other}))
	case 2:
		f := tyOf(impl.TyFun, other, ty)
		return bracket("rec", "f", name, with(ty, made{"f", f}, made{name, other}), with(ty, made{"f", f}))
	case 3:
		return bracket("if", part(tyInt), part(ty), part(ty))
	case 4:
		return bracket("fst", part(tyOf(impl.TyPair, ty, other)))
	case 5:
		return bracket("snd", part(tyOf(impl.TyPair, other, ty)))
	case 6:
		return bracket("read", part(inRef(ty)))
	case 7:
		return bracket("try", part(ty), name, with(ty, made{name, tyInt}))
	case 8:
		return bracket("match", part(tyData(0, other)), bracket("Nil", part(ty)), bracket("Cons a b", with(ty, made{"a", other}, made{"b", tyData(0, other)})))
	case 9:
		return bracket("match", part(tyData(1, ty, other)), bracket("Both a b", with(ty, made{"a", other}, made{"b", ty})))
	}
	poly := pick(w, polys)
	inside := fmt.Sprintf(poly.use, part(ty))
	if w.below(2) == 0 {
		inside = fmt.Sprintf(poly.use, bracket("fst", fmt.Sprintf(poly.use, bracket("pair", part(ty), part(other)))))
	}
	return fmt.Sprintf(poly.begin, inside)
}

// someTyped is a source that has a type, but where that is too large.
func (w *walk) someTyped() impl.Source {
	for {
		text := someData + w.typedText(2+w.below(6), w.smallTy(3), nil)
		if s, code, _ := impl.Parse([]byte(text)); code == impl.ParseWell {
			return s
		}
	}
}

func TestManySourcesThatHaveATypeAgainstGuesses(t *testing.T) {
	w := &walk{state: 61}
	codes := map[int]int{}
	quants := 0
	for i := range 6000 {
		s := w.someTyped()
		code := wantAsGuessed(t, s)
		codes[code]++
		if code != impl.TypeWell {
			continue
		}
		got, _ := impl.Infer(s)
		if strings.Contains(sayTerm(got), "{0") {
			quants++
		}
		if i%20 == 0 {
			wantSameBehindLets(t, s)
		}
	}
	if codes[impl.TypeWell] < 5000 || quants < 2000 {
		t.Error("the test's own sources:", codes, quants)
	}
}

// allPlaces answers the places of all parts of e.
func allPlaces(e *impl.Expr) []*impl.Expr {
	list := []*impl.Expr{e}
	for i := range e.Kids {
		list = append(list, allPlaces(&e.Kids[i])...)
	}
	for i := range e.Arms {
		list = append(list, allPlaces(&e.Arms[i].Body)...)
	}
	return list
}

func copyExpr(e impl.Expr) impl.Expr {
	e.Kids, e.Arms = slices.Clone(e.Kids), slices.Clone(e.Arms)
	for i := range e.Kids {
		e.Kids[i] = copyExpr(e.Kids[i])
	}
	for i := range e.Arms {
		e.Arms[i].Body = copyExpr(e.Arms[i].Body)
	}
	return e
}

// mixed is s with some parts in the places of others, or with other names.
func (w *walk) mixed(s impl.Source) impl.Source {
	body := copyExpr(s.Body)
	for range 2 + w.below(4) {
		places := allPlaces(&body)
		from := copyExpr(*pick(w, places))
		to := pick(w, places)
		switch w.below(4) {
		case 0:
			if len(to.Name) > 0 && to.Kind != impl.ExCon {
				to.Name = []byte(pick(w, []string{"a", "b", "c", "x", "id", "f"}))
			}
		case 1:
			if len(to.Arms) > 0 {
				at := w.below(len(to.Arms))
				to.Arms[at].Con = []byte(pick(w, []string{"", "Nil", "Cons", "Yes", "Both"}))
				to.Arms = append(to.Arms, to.Arms[w.below(len(to.Arms))])[w.below(2):]
			}
		default:
			*to = from
		}
	}
	return impl.Source{Datas: s.Datas, Body: body}
}

func TestManySourcesThatAreMixedAgainstGuesses(t *testing.T) {
	w := &walk{state: 62}
	codes := map[int]int{}
	for range 12000 {
		s := w.mixed(w.someTyped())
		if rawExprOk(s.Body) {
			codes[wantAsGuessed(t, s)]++
		}
	}
	if codes[impl.TypeWell] < 1000 || codes[impl.TypeClash] < 1000 || codes[impl.TypeName] < 1000 || codes[impl.TypeArms] < 50 {
		t.Error("the test's own sources:", codes)
	}
}

// turnedTerm is a copy of term with several turns, most often ones that go together.
func (w *walk) turnedTerm(term impl.Term) impl.Term {
	turned := copyTerm(term)
	if w.below(2) == 0 {
		renumber(&turned, w.below(3), w.below(5))
	}
	if w.below(2) == 0 {
		overTypes(&turned, putFor(w.below(3), pick(w, []impl.Ty{tyInt, tyUnit, tyVar(0), inRef(tyInt)})))
	}
	for range w.below(3) {
		at := w.below(10)
		if p := partAt(&turned, &at); p != nil {
			pick(w, slices.Concat(turnsOf(*p), treeTurns(*p))).do(p)
		}
	}
	return turned
}

func TestManyTermsThatAreTurned(t *testing.T) {
	w := &walk{state: 63}
	taken, refused := 0, 0
	for range 4000 {
		s := w.someTyped()
		term, code := impl.Infer(s)
		if code != impl.TypeWell {
			continue
		}
		turned := w.turnedTerm(term)
		ok := rawTermOk(s.Datas, turned)
		if impl.TermOk(s.Datas, turned) != ok {
			t.Fatalf("%s: TermOk is %v: %v", rawPrint(s), !ok, turned)
		}
		if ok {
			taken++
		} else {
			refused++
		}
	}
	if taken < 300 || refused < 1000 {
		t.Errorf("the test's own turns: %d taken, %d refused", taken, refused)
	}
}
