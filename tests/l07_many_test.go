package tests

import (
	"fmt"
	"slices"
	"strings"
	"testing"

	"loop.example/g00293/impl"
)

// A rawLowering does what Mono must by types over the datas, which it has as texts; it panics with tooLarge.
type rawLowering struct {
	datas   []impl.Data
	places  map[string]int
	layouts []impl.Layout
	numbers int
	parts   int
}

type tooLarge struct{}

// A rawCopy is a let or rec with Quant: which number each Inst, said as a text, has, and these in their order.
type rawCopy struct {
	numbers map[string]int
	order   [][]impl.Ty
}

type rawLowName struct {
	name   string
	number int
	copies *rawCopy
}

func (r *rawLowering) next() int {
	r.numbers++
	return r.numbers - 1
}

// onTheWay answers ty with what is put for its variables: the type that must be one, each data in it with its Args.
func onTheWay(ty impl.Ty, put map[int]impl.Ty) impl.Ty {
	got := closed(ty, put)
	if !rawOk(got) {
		panic(tooLarge{})
	}
	return got
}

// closed answers ty with what is put for its variables, however large.
func closed(ty impl.Ty, put map[int]impl.Ty) impl.Ty {
	if ty.Kind == impl.TyVar {
		return put[ty.N]
	}
	got := impl.Ty{Kind: ty.Kind, N: ty.N}
	for _, arg := range ty.Args {
		got.Args = append(got.Args, closed(arg, put))
	}
	return got
}

// low answers a type over the datas without variables as a low one.
func (r *rawLowering) low(ty impl.Ty) impl.Ty {
	got := impl.Ty{Kind: ty.Kind, N: ty.N}
	for _, arg := range ty.Args {
		got.Args = append(got.Args, r.low(arg))
	}
	if ty.Kind != impl.TyData {
		return got
	}
	key := rawText(ty)
	place, ok := r.places[key]
	if !ok {
		place = len(r.places)
		if place == impl.MaxData {
			panic(tooLarge{})
		}
		r.places[key] = place
		r.layouts = append(r.layouts, impl.Layout{Cons: make([][]impl.Ty, len(r.datas[ty.N].Cons))})
		put := map[int]impl.Ty{}
		for i, arg := range ty.Args {
			put[i] = arg
		}
		for i, c := range r.datas[ty.N].Cons {
			for _, field := range c.Fields {
				r.layouts[place].Cons[i] = append(r.layouts[place].Cons[i], r.low(onTheWay(field, put)))
			}
		}
	}
	return tyData(place)
}

func (r *rawLowering) part(t impl.Term, names []rawLowName, put map[int]impl.Ty) impl.Low {
	with := func(name []byte, number int) []rawLowName {
		return append(slices.Clone(names), rawLowName{string(name), number, nil})
	}
	own := r.low(onTheWay(t.Ty, put))
	if len(t.Quant) > 0 {
		return r.copies(t, names, put)
	}
	e := impl.Low{Kind: t.Kind, Con: t.Con, Lit: t.Lit, Ty: own}
	r.count()
	scopes := slices.Repeat([][]rawLowName{names}, len(t.Kids))
	switch t.Kind {
	case impl.ExVar:
		e.N = r.variable(t, names, put)
	case impl.ExInt, impl.ExOp, impl.ExCall:
		e.N = t.N
	case impl.ExCon, impl.ExMatch:
		e.N = r.low(onTheWay(tyData(t.N, t.Inst...), put)).N
	case impl.ExFn, impl.ExLet, impl.ExTry:
		e.N = r.next()
		scopes[len(scopes)-1] = with(t.Name, e.N)
	case impl.ExRec:
		e.N, e.Fun, e.M = r.next(), r.low(onTheWay(t.Inst[0], put)), r.next()
		scopes[1] = with(t.Name, e.N)
		scopes[0] = append(with(t.Name, e.N), rawLowName{string(t.Arg), e.M, nil})
	}
	for i, kid := range t.Kids {
		e.Kids = append(e.Kids, r.part(kid, scopes[i], put))
	}
	for _, alt := range t.Alts {
		low, inside := impl.LowAlt{Con: alt.Con}, slices.Clone(names)
		for _, v := range alt.Vars {
			low.Vars = append(low.Vars, r.next())
			inside = append(inside, rawLowName{string(v), r.numbers - 1, nil})
		}
		low.Body = r.part(alt.Body, inside, put)
		e.Alts = append(e.Alts, low)
	}
	return e
}

func (r *rawLowering) count() {
	r.parts++
	if r.parts > impl.MaxLow {
		panic(tooLarge{})
	}
}

func (r *rawLowering) variable(t impl.Term, names []rawLowName, put map[int]impl.Ty) int {
	at := len(names) - 1
	for names[at].name != string(t.Name) {
		at--
	}
	c := names[at].copies
	if c == nil {
		return names[at].number
	}
	key, inst := "", []impl.Ty{}
	for _, ty := range t.Inst {
		got := onTheWay(ty, put)
		key += rawText(got) + ";"
		inst = append(inst, got)
	}
	if _, ok := c.numbers[key]; !ok {
		c.numbers[key] = r.next()
		c.order = append(c.order, append(inst, tyVar(c.numbers[key])))
	}
	return c.numbers[key]
}

// copies makes them from the last one on: the number of each stands behind its Inst.
func (r *rawLowering) copies(t impl.Term, names []rawLowName, put map[int]impl.Ty) impl.Low {
	c := &rawCopy{numbers: map[string]int{}}
	inner := r.part(t.Kids[1], append(slices.Clone(names), rawLowName{string(t.Name), -1, c}), put)
	outer := []*impl.Low{&inner}
	for _, inst := range c.order {
		more := map[int]impl.Ty{}
		for v, ty := range put {
			more[v] = ty
		}
		for i, v := range t.Quant {
			more[v] = inst[i]
		}
		r.count()
		e := impl.Low{Kind: t.Kind, N: inst[len(t.Quant)].N, Ty: r.low(onTheWay(t.Ty, put))}
		inside := slices.Clone(names)
		if t.Kind == impl.ExRec {
			e.Fun, e.M = r.low(onTheWay(t.Inst[0], more)), r.next()
			inside = append(inside, rawLowName{string(t.Name), e.N, nil}, rawLowName{string(t.Arg), e.M, nil})
		}
		e.Kids = []impl.Low{r.part(t.Kids[0], inside, more), {}}
		outer = append(outer, &e)
	}
	whole := *outer[0]
	for i := len(outer) - 1; i > 0; i-- {
		outer[i].Kids[1] = whole
		whole = *outer[i]
	}
	return whole
}

// rawMono tells what Mono must.
func rawMono(datas []impl.Data, t impl.Term) (w impl.Whole, code int) {
	if !rawTermOk(datas, t) {
		return impl.Whole{}, impl.MonoForm
	}
	defer func() {
		if why := recover(); why != nil {
			if _, ok := why.(tooLarge); !ok {
				panic(why)
			}
			w, code = impl.Whole{}, impl.MonoLarge
		}
	}()
	r := &rawLowering{datas: datas, places: map[string]int{}}
	body := r.part(t, nil, nil)
	if rawLowDeep(body) > 2*impl.MaxDeep {
		return impl.Whole{}, impl.MonoLarge
	}
	return impl.Whole{Layouts: r.layouts, Body: body}, impl.MonoWell
}

// wantAsRaw looks for what rawMono tells, and for what the promise says of it; it answers the code.
func wantAsRaw(t *testing.T, datas []impl.Data, term impl.Term) int {
	t.Helper()
	want, wantCode := rawMono(datas, term)
	got, code := impl.Mono(datas, term)
	if code != wantCode || !sameWhole(got, want) {
		t.Fatalf("%.2000v: %d %.1000s %.2000s, not %d %.1000s %.2000s", term, code, sayLayouts(got.Layouts), sayLow(got.Body), wantCode, sayLayouts(want.Layouts), sayLow(want.Body))
	}
	if code == impl.MonoWell {
		wantPromised(t, datas, term, got)
		if !rawWholeOk(got) {
			t.Fatalf("%s: the test's own judge: %s", sayTerm(term), sayLow(got.Body))
		}
	}
	return code
}

// A tree is what a term and a low expression have in common: names are texts, constructors numbers.
type tree struct {
	kind, n, con int
	name, arg    string
	lit          string
	kids         []tree
	alts         []treeAlt
}

type treeAlt struct {
	con  int
	vars []string
	body tree
}

func treeOfTerm(t impl.Term) tree {
	x := tree{kind: t.Kind, n: t.N, con: t.Con, name: string(t.Name), arg: string(t.Arg), lit: string(t.Lit)}
	for _, kid := range t.Kids {
		x.kids = append(x.kids, treeOfTerm(kid))
	}
	for _, alt := range t.Alts {
		a := treeAlt{con: alt.Con, body: treeOfTerm(alt.Body)}
		for _, v := range alt.Vars {
			a.vars = append(a.vars, string(v))
		}
		x.alts = append(x.alts, a)
	}
	return x
}

func treeOfLow(e impl.Low) tree {
	x := tree{kind: e.Kind, n: e.N, con: e.Con, name: fmt.Sprint("#", e.N), arg: fmt.Sprint("#", e.M), lit: string(e.Lit)}
	for _, kid := range e.Kids {
		x.kids = append(x.kids, treeOfLow(kid))
	}
	for _, alt := range e.Alts {
		a := treeAlt{con: alt.Con, body: treeOfLow(alt.Body)}
		for _, v := range alt.Vars {
			a.vars = append(a.vars, fmt.Sprint("#", v))
		}
		x.alts = append(x.alts, a)
	}
	return x
}

// Values of trees are nil for unit, ints, strings, and these.
type (
	treePair [2]any
	treeCell struct{ is any }
	treeData struct {
		con  int
		list []any
	}
	treeFun struct {
		arg   string
		body  tree
		names map[string]any
	}
	treeRaise int
	treeFuel  struct{}
)

// A treeRun evaluates trees; calls to the world are told one after the other, and answer how many there were.
type treeRun struct {
	fuel  int
	trace []string
}

func named(names map[string]any, more ...any) map[string]any {
	all := map[string]any{}
	for name, v := range names {
		all[name] = v
	}
	for i := 0; i < len(more); i += 2 {
		all[more[i].(string)] = more[i+1]
	}
	return all
}

func (r *treeRun) eval(x tree, names map[string]any) any {
	r.fuel--
	if r.fuel < 0 {
		panic(treeFuel{})
	}
	switch x.kind {
	case impl.ExVar:
		return names[x.name]
	case impl.ExFn:
		return &treeFun{x.name, x.kids[0], names}
	case impl.ExLet:
		return r.eval(x.kids[1], named(names, x.name, r.eval(x.kids[0], names)))
	case impl.ExRec:
		f := &treeFun{arg: x.arg, body: x.kids[0]}
		f.names = named(names, x.name, f)
		return r.eval(x.kids[1], named(names, x.name, f))
	case impl.ExIf:
		if r.eval(x.kids[0], names).(int) != 0 {
			return r.eval(x.kids[1], names)
		}
		return r.eval(x.kids[2], names)
	case impl.ExTry:
		return r.try(x, names)
	case impl.ExMatch:
		v := r.eval(x.kids[0], names).(*treeData)
		for _, alt := range x.alts {
			if alt.con == v.con || alt.con < 0 {
				inside := named(names)
				for i, name := range alt.vars {
					inside[name] = v.list[i]
				}
				return r.eval(alt.body, inside)
			}
		}
	}
	var kids []any
	for _, kid := range x.kids {
		kids = append(kids, r.eval(kid, names))
	}
	return r.plain(x, kids)
}

func (r *treeRun) try(x tree, names map[string]any) (v any) {
	defer func() {
		why := recover()
		if n, ok := why.(treeRaise); ok {
			v = r.eval(x.kids[1], named(names, x.name, int(n)))
		} else if why != nil {
			panic(why)
		}
	}()
	return r.eval(x.kids[0], names)
}

func (r *treeRun) plain(x tree, kids []any) any {
	num := func(i int) int { return kids[i].(int) }
	switch x.kind {
	case impl.ExInt:
		return x.n
	case impl.ExText:
		return x.lit
	case impl.ExApp:
		f := kids[0].(*treeFun)
		return r.eval(f.body, named(f.names, f.arg, kids[1]))
	case impl.ExPair:
		return treePair{kids[0], kids[1]}
	case impl.ExFst, impl.ExSnd:
		return kids[0].(treePair)[x.kind-impl.ExFst]
	case impl.ExRef:
		return &treeCell{kids[0]}
	case impl.ExRead:
		return kids[0].(*treeCell).is
	case impl.ExWrite:
		kids[0].(*treeCell).is = kids[1]
	case impl.ExCon:
		return &treeData{x.con, kids}
	case impl.ExRaise:
		panic(treeRaise(num(0)))
	case impl.ExOp:
		switch x.n {
		case impl.OpCat:
			return kids[0].(string) + kids[1].(string)
		case impl.OpLen:
			return len(kids[0].(string))
		}
		return []int{num(0) + num(1), num(0) - num(1), num(0) * num(1), min(1, max(0, num(1)-num(0))), 1 - min(1, max(num(1)-num(0), num(0)-num(1)))}[x.n]
	case impl.ExCall:
		r.trace = append(r.trace, fmt.Sprint(rawCalls[x.n], kids))
		if x.n != impl.CapPrint && x.n != impl.CapPut {
			return len(r.trace)
		}
	}
	return nil
}

func treeShow(v any, depth int) string {
	if depth == 0 {
		return ".."
	}
	var parts []any
	head := fmt.Sprintf("%T", v)
	switch x := v.(type) {
	case treePair:
		parts = x[:]
	case *treeCell:
		parts = []any{x.is}
	case *treeData:
		head, parts = fmt.Sprint("#", x.con), x.list
	case int, string:
		head = fmt.Sprintf("%q", fmt.Sprint(v))
	}
	for _, part := range parts {
		head += " " + treeShow(part, depth-1)
	}
	return bracket(head)
}

// treeEnd says how a tree ends, and with what; false: not within its fuel.
func treeEnd(x tree) (text string, ok bool) {
	r := &treeRun{fuel: 3000}
	defer func() {
		switch why := recover().(type) {
		case nil:
		case treeRaise:
			text, ok = fmt.Sprint(r.trace, " raised ", int(why)), true
		case treeFuel:
			text, ok = "", false
		default:
			panic(why)
		}
	}()
	v := r.eval(x, nil)
	return fmt.Sprint(r.trace, " ended ", treeShow(v, 8)), true
}

// wantSameMeaning looks whether what comes of a term does what the term does; it answers whether both end.
func wantSameMeaning(t *testing.T, term impl.Term, w impl.Whole) bool {
	t.Helper()
	want, ends := treeEnd(treeOfTerm(term))
	got, lowEnds := treeEnd(treeOfLow(w.Body))
	if ends && lowEnds && got != want {
		t.Fatalf("%s: %s, not %s: %s", sayTerm(term), got, want, sayLow(w.Body))
	}
	return ends && lowEnds
}

// moreTexts are bodies behind someData that do something.
var moreTexts = []string{
	`(let id (fn x x) (let u (print (id "a")) (pair (id 1) (id (id "b")))))`, "(rec sum l (match l (Nil 0) (Cons h r (add h (sum r)))) (sum (Cons 1 (Cons 2 Nil))))",
	"(rec rev a (fn l (match l (Nil a) (Cons h r ((rev (Cons h a)) r)))) (pair ((rev Nil) (Cons 1 (Cons 2 Nil))) ((rev Nil) (Cons \"a\" (Cons \"b\" Nil)))))",
	"(let twice (fn f (fn x (f (f x)))) (pair (((twice twice) (fn n (add n 3))) 0) ((twice (fn s (cat s \"!\"))) \"a\")))", "(let a tick (let f (fn x (pair x a)) (pair (f tick) (f \"z\"))))",
	"(let c (ref 1) (let set (fn v (write c v)) (let u (set 5) (pair (read c) u))))", "(try (let f (fn x (raise 7)) (pair (f 1) (f \"a\"))) e (pair e e))", "(let k (fn x (fn y x)) (pair ((k 1) \"a\") ((k \"b\") 2)))",
	"(let x 1 (let f (fn y (pair x y)) (let x \"in\" (pair (f x) (pair (f 2) x)))))", "(let f (fn x (let g (fn y (pair x y)) (pair (g x) (g 1)))) (pair (f \"a\") (f 2)))",
}

func TestTheTextsAgainstTheWords(t *testing.T) {
	ends := 0
	for _, text := range slices.Concat(wellTexts, turnTexts, moreTexts, monoTexts()) {
		s := behindData(t, text)
		term := wantWell(t, s)
		if wantAsRaw(t, s.Datas, term) != impl.MonoWell {
			continue
		}
		if w, _ := impl.Mono(s.Datas, term); wantSameMeaning(t, term, w) {
			ends++
		}
	}
	if ends < 60 {
		t.Error("the test's own texts:", ends)
	}
}

func TestManySourcesAgainstTheWords(t *testing.T) {
	w := &walk{state: 71}
	codes, ends := map[int]int{}, 0
	for range 3000 {
		s := w.someTyped()
		term, code := impl.Infer(s)
		if code != impl.TypeWell {
			continue
		}
		code = wantAsRaw(t, s.Datas, term)
		codes[code]++
		if got, _ := impl.Mono(s.Datas, term); code == impl.MonoWell && wantSameMeaning(t, term, got) {
			ends++
		}
	}
	if codes[impl.MonoWell] < 2000 || ends < 1000 {
		t.Error("the test's own sources:", codes, ends)
	}
}

// someUse is a text in which f is a function, and names may be asked for.
func (w *walk) someUse(depth int, names []string) string {
	if depth <= 1 || w.below(5) == 0 {
		return pick(w, append(slices.Clone(names), "1", "unit", `"a"`, "Nil", "Yes", "x", "x", "x"))
	}
	part := func() string { return w.someUse(depth-1, names) }
	switch w.below(16) {
	case 0:
		return bracket("pair", part(), part())
	case 1:
		return bracket("fst", bracket("pair", part(), part()))
	case 2:
		return bracket("ref", part())
	case 3:
		return bracket("Cons", part(), "Nil")
	case 4:
		return bracket("Both", part(), part())
	case 5:
		return bracket("let", "y", part(), part())
	case 6:
		return bracket("match", bracket("Half", part()), "(Half x "+part()+")", "(_ (raise 1))")
	case 7:
		return bracket("fn", "x", part())
	case 8:
		return bracket("snd", bracket("pair", part(), part()))
	case 9:
		return w.someLets(depth-1, names)
	}
	if len(names) == 0 {
		return part()
	}
	return bracket(pick(w, names), part())
}

// someLets binds functions that are for all, each of which may ask for those ahead of it.
func (w *walk) someLets(depth int, names []string) string {
	text, ends := "", ""
	for range 1 + w.below(5) {
		name := fmt.Sprint("f", w.below(7))
		body := w.someUse(depth, names)
		if w.below(4) > 0 {
			text += fmt.Sprintf("(let %s (fn x %s) ", name, body)
		} else {
			text += fmt.Sprintf("(rec %s x %s ", name, pick(w, []string{body, "(if 1 " + body + " (" + name + " x))", "(snd (pair (" + name + " 1) " + body + "))"}))
		}
		ends += ")"
		names = append(slices.Clone(names), name)
	}
	return text + bracket("pair", w.someUse(depth, names), w.someUse(depth, names)) + ends
}

// TestManyLetsAgainstTheWords: what is for all, asked for at many types, by others that are for all.
func TestManyLetsAgainstTheWords(t *testing.T) {
	w := &walk{state: 72}
	codes, ends, several, largest := map[int]int{}, 0, 0, 0
	for codes[impl.MonoWell] < 2500 {
		s, code, _ := impl.Parse([]byte(someData + "(let x 7 " + w.someLets(2+w.below(3), nil) + ")"))
		if code != impl.ParseWell {
			continue
		}
		term, code := impl.Infer(s)
		if code != impl.TypeWell {
			continue
		}
		code = wantAsRaw(t, s.Datas, term)
		codes[code]++
		got, _ := impl.Mono(s.Datas, term)
		if code == impl.MonoWell && wantSameMeaning(t, term, got) {
			ends++
		}
		if strings.Count(sayLow(got.Body), "(let ")+strings.Count(sayLow(got.Body), "(rec ") > 4 {
			several++
		}
		largest = max(largest, impl.LowNodes(got.Body))
	}
	if ends < 1000 || several < 500 || largest < 200 {
		t.Error("the test's own sources:", codes, ends, several, largest)
	}
}

// growing binds functions that ask for those ahead of them, at types that grow.
func (w *walk) growing(count int) string {
	grown := func() string {
		return pick(w, []string{"x", "x", "x", "unit", "(ref x)", "(pair x 1)", "(pair unit x)", "(pair x x)", "(Cons x Nil)", "(Both x 1)", "(fn z x)", "(Half (Cons x Nil))"})
	}
	text := "(let f0 (fn x " + pick(w, []string{"1", "(fst (pair 1 (ref x)))", "(fst (pair 1 (Cons x Nil)))"}) + ") "
	for i := 1; i < count; i++ {
		var calls []string
		for range 1 + w.below(3) {
			calls = append(calls, fmt.Sprintf("(f%d %s)", max(0, i-1-w.below(2)), grown()))
		}
		text += fmt.Sprintf(pick(w, []string{"(let f%d (fn x %s) ", "(rec f%d x %s "}), i, sumOf(calls))
	}
	return text + fmt.Sprintf("(let x 1 (f%d %s))", count-1, grown()) + strings.Repeat(")", count)
}

// TestManyCopiesAgainstTheWords: what comes is near to its limits, or beyond one of them.
func TestManyCopiesAgainstTheWords(t *testing.T) {
	w := &walk{state: 75}
	codes, largest := map[int]int{}, 0
	for range 1500 {
		s := behindData(t, w.growing(2+w.below(9)))
		term := wantWell(t, s)
		codes[wantAsRaw(t, s.Datas, term)]++
		got, _ := impl.Mono(s.Datas, term)
		largest = max(largest, impl.LowNodes(got.Body))
	}
	if codes[impl.MonoWell] < 400 || codes[impl.MonoLarge] < 200 || largest < 500 {
		t.Error("the test's own sources:", codes, largest)
	}
}

// TestManyTurnedTermsAgainstTheWords: terms that are not the most general ones, and what is no term.
func TestManyTurnedTermsAgainstTheWords(t *testing.T) {
	w := &walk{state: 73}
	codes := map[int]int{}
	for range 3000 {
		s := w.someTyped()
		term, code := impl.Infer(s)
		if code == impl.TypeWell {
			codes[wantAsRaw(t, s.Datas, w.turnedTerm(term))]++
		}
	}
	if codes[impl.MonoWell] < 500 || codes[impl.MonoForm] < 500 {
		t.Error("the test's own turns:", codes)
	}
}

// TestManyTurnedWholesAgainstTheWords: several turns at once.
func TestManyTurnedWholesAgainstTheWords(t *testing.T) {
	w := &walk{state: 74}
	taken, refused := 0, 0
	for range 3000 {
		s := w.someTyped()
		term, code := impl.Infer(s)
		whole, lowCode := impl.Mono(s.Datas, term)
		if code != impl.TypeWell || lowCode != impl.MonoWell {
			continue
		}
		for range 3 {
			turned := copyWhole(whole)
			if bound := rawAllBinds(turned.Body); len(bound) > 0 && w.below(2) == 0 {
				renumberLow(&turned.Body, pick(w, bound), pick(w, []int{w.below(20), 1000 + w.below(20), impl.MaxNum}))
			}
			for range w.below(3) {
				p := pick(w, lowPlaces(&turned.Body))
				pick(w, slices.Concat(lowTurnsOf(*p), lowTreeTurns(*p))).do(p)
			}
			ok := rawWholeOk(turned)
			if impl.WholeOk(turned) != ok {
				t.Fatalf("%s: WholeOk is %v: %v", rawPrint(s), !ok, turned)
			}
			if ok {
				taken++
			} else {
				refused++
			}
		}
	}
	if taken < 1000 || refused < 2000 {
		t.Errorf("the test's own turns: %d taken, %d refused", taken, refused)
	}
}
