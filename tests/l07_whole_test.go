package tests

import (
	"fmt"
	"math"
	"slices"
	"strings"
	"testing"

	"loop.example/g00293/impl"
)

// The raw functions below say of low expressions with an end what the document says, kind by kind.

func rawLowTy(ty impl.Ty, layouts int) bool {
	if !impl.TyOk(ty) || ty.Kind == impl.TyVar || ty.Kind == impl.TyData && (len(ty.Args) > 0 || ty.N >= layouts) {
		return false
	}
	return !slices.ContainsFunc(ty.Args, func(arg impl.Ty) bool { return !rawLowTy(arg, layouts) })
}

func rawLayoutsOk(layouts []impl.Layout) bool {
	ok := len(layouts) <= impl.MaxData
	for _, layout := range layouts {
		ok = ok && len(layout.Cons) >= 1 && len(layout.Cons) <= impl.MaxCons
		for _, fields := range layout.Cons {
			ok = ok && len(fields) <= impl.MaxFields && !slices.ContainsFunc(fields, func(ty impl.Ty) bool { return !rawLowTy(ty, len(layouts)) })
		}
	}
	return ok
}

// rawBinds answers the numbers that e itself binds.
func rawBinds(e impl.Low) []int {
	var list []int
	switch e.Kind {
	case impl.ExFn, impl.ExLet, impl.ExTry:
		list = append(list, e.N)
	case impl.ExRec:
		list = append(list, e.N, e.M)
	}
	for _, alt := range e.Alts {
		list = append(list, alt.Vars...)
	}
	return list
}

func rawAllBinds(e impl.Low) []int {
	list := rawBinds(e)
	for _, part := range lowParts(e) {
		list = append(list, rawAllBinds(part)...)
	}
	return list
}

// rawAltsOk is said of the alts of a match over that layout.
func rawAltsOk(layout impl.Layout, alts []impl.LowAlt) bool {
	there := map[int]int{}
	for i, alt := range alts {
		switch {
		case alt.Con == -1 && (i < len(alts)-1 || len(alt.Vars) > 0), alt.Con < -1, alt.Con >= len(layout.Cons):
			return false
		case alt.Con >= 0 && len(alt.Vars) != len(layout.Cons[alt.Con]):
			return false
		}
		there[alt.Con]++
	}
	wild := there[-1]
	cons := len(there) - wild
	return len(there) == len(alts) && cons > 0 && (cons == len(layout.Cons)) == (wild == 0)
}

// rawLowTop says whether e, its parts aside, has all that its kind names, and no more.
func rawLowTop(e impl.Low, layouts []impl.Layout) bool {
	row, known := rawRows[e.Kind]
	least, most := rawKidsOf(impl.Expr{Kind: e.Kind, N: e.N})
	named := func(kinds ...int) bool { return slices.Contains(kinds, e.Kind) }
	place := e.N >= 0 && e.N < len(layouts)
	var ok bool
	switch {
	case named(impl.ExInt):
		ok = e.N >= leastWhole && e.N <= mostWhole
	case named(impl.ExCon):
		ok = place && e.Con >= 0 && e.Con < len(layouts[e.N].Cons) && len(e.Kids) == len(layouts[e.N].Cons[e.Con])
	case named(impl.ExMatch):
		ok = place && rawAltsOk(layouts[e.N], e.Alts)
	case named(impl.ExVar):
		ok = true // held against what is bound
	case named(impl.ExFn, impl.ExLet, impl.ExRec, impl.ExTry):
		ok = true
	default:
		ok = e.N >= 0 && e.N <= row.lastN
	}
	for _, n := range rawBinds(e) {
		ok = ok && n >= 0 && n <= impl.MaxNum
	}
	return known && ok && len(e.Kids) >= least && len(e.Kids) <= most && (named(impl.ExRec) || e.M == 0 && isZeroTy(e.Fun)) && (named(impl.ExCon) || e.Con == 0) &&
		(named(impl.ExText) && literalForm.Match(e.Lit) || !named(impl.ExText) && len(e.Lit) == 0) && (named(impl.ExMatch) || len(e.Alts) == 0)
}

// A lowJudge says whether parts are typed; names are the types at which numbers are bound.
type lowJudge struct {
	layouts []impl.Layout
	plain   rawJudge
}

func newLowJudge(layouts []impl.Layout) lowJudge {
	var datas []impl.Data
	for _, layout := range layouts {
		var d impl.Data
		for _, fields := range layout.Cons {
			d.Cons = append(d.Cons, impl.Con{Fields: fields})
		}
		datas = append(datas, d)
	}
	return lowJudge{layouts, rawJudge{datas}}
}

func (j lowJudge) typed(e impl.Low, names map[int]impl.Ty) bool {
	if !rawLowTop(e, j.layouts) || !rawLowTy(e.Ty, len(j.layouts)) {
		return false
	}
	part := func(part impl.Low, ty impl.Ty, binds ...any) bool {
		inside := map[int]impl.Ty{}
		for n, bound := range names {
			inside[n] = bound
		}
		for i := 0; i < len(binds); i += 2 {
			inside[binds[i].(int)] = binds[i+1].(impl.Ty)
		}
		return rawSame(part.Ty, ty) && j.typed(part, inside)
	}
	switch e.Kind {
	case impl.ExVar:
		bound, ok := names[e.N]
		return ok && rawSame(bound, e.Ty)
	case impl.ExFn:
		return e.Ty.Kind == impl.TyFun && part(e.Kids[0], e.Ty.Args[1], e.N, e.Ty.Args[0])
	case impl.ExLet:
		return part(e.Kids[0], e.Kids[0].Ty) && part(e.Kids[1], e.Ty, e.N, e.Kids[0].Ty)
	case impl.ExRec:
		return e.Fun.Kind == impl.TyFun && rawLowTy(e.Fun, len(j.layouts)) && part(e.Kids[0], e.Fun.Args[1], e.N, e.Fun, e.M, e.Fun.Args[0]) && part(e.Kids[1], e.Ty, e.N, e.Fun)
	case impl.ExTry:
		return part(e.Kids[0], e.Ty) && part(e.Kids[1], e.Ty, e.N, tyInt)
	case impl.ExMatch:
		for _, alt := range e.Alts {
			var binds []any
			for i, n := range alt.Vars {
				binds = append(binds, n, j.layouts[e.N].Cons[alt.Con][i])
			}
			if !part(alt.Body, e.Ty, binds...) {
				return false
			}
		}
		return part(e.Kids[0], tyData(e.N))
	}
	term := impl.Term{Kind: e.Kind, N: e.N, Con: e.Con, Ty: e.Ty}
	for _, kid := range e.Kids {
		if !part(kid, kid.Ty) {
			return false
		}
		term.Kids = append(term.Kids, impl.Term{Ty: kid.Ty})
	}
	return j.plain.plain(term)
}

func rawWholeOk(w impl.Whole) bool {
	bound := rawAllBinds(w.Body)
	slices.Sort(bound)
	return rawLayoutsOk(w.Layouts) && rawLowNodes(w.Body) <= impl.MaxLow && rawLowDeep(w.Body) <= 2*impl.MaxDeep &&
		len(slices.Compact(slices.Clone(bound))) == len(bound) && newLowJudge(w.Layouts).typed(w.Body, nil)
}

func copyLow(e impl.Low) impl.Low {
	e.Lit, e.Ty, e.Fun = slices.Clone(e.Lit), rawSubst(e.Ty, nil), rawSubst(e.Fun, nil)
	e.Kids, e.Alts = slices.Clone(e.Kids), slices.Clone(e.Alts)
	for i := range e.Kids {
		e.Kids[i] = copyLow(e.Kids[i])
	}
	for i, alt := range e.Alts {
		e.Alts[i] = impl.LowAlt{Con: alt.Con, Vars: slices.Clone(alt.Vars), Body: copyLow(alt.Body)}
	}
	return e
}

func copyLayouts(list []impl.Layout) []impl.Layout {
	list = slices.Clone(list)
	for i, layout := range list {
		list[i].Cons = slices.Clone(layout.Cons)
		for k, fields := range layout.Cons {
			list[i].Cons[k] = slices.Clone(fields)
		}
	}
	return list
}

func copyWhole(w impl.Whole) impl.Whole {
	return impl.Whole{Layouts: copyLayouts(w.Layouts), Body: copyLow(w.Body)}
}

// lowPlaces answers the places of all parts of e.
func lowPlaces(e *impl.Low) []*impl.Low {
	list := []*impl.Low{e}
	for i := range e.Kids {
		list = append(list, lowPlaces(&e.Kids[i])...)
	}
	for i := range e.Alts {
		list = append(list, lowPlaces(&e.Alts[i].Body)...)
	}
	return list
}

// wholeOf answers what Mono tells of a body behind someData.
func wholeOf(t *testing.T, text string) impl.Whole {
	t.Helper()
	s := behindData(t, text)
	return wantMonoWell(t, s.Datas, wantWell(t, s))
}

func wantWhole(t *testing.T, what string, w impl.Whole, ok bool) {
	t.Helper()
	if impl.WholeOk(w) != ok {
		t.Errorf("%.300s: WholeOk is %v", what, !ok)
	}
}

// A lowTurn changes one field of one part.
type lowTurn struct {
	what string
	do   func(p *impl.Low)
}

type lowTurns []lowTurn

func (list *lowTurns) add(do func(p *impl.Low), what ...any) {
	*list = append(*list, lowTurn{fmt.Sprint(what...), do})
}

var turnNumbers = []int{-2, -1, 0, 1, 2, 3, 4, 5, 6, 19, 20, mostWhole, mostWhole + 1, leastWhole, leastWhole - 1, impl.MaxNum, impl.MaxNum + 1, math.MaxInt, math.MinInt}

// lowTurnsOf are turns of all fields but Kids and Alts of a part that is like p.
func lowTurnsOf(p impl.Low) lowTurns {
	var list lowTurns
	for kind := -1; kind <= impl.ExCall+1; kind++ {
		list.add(func(p *impl.Low) { p.Kind = kind }, "Kind ", kind)
	}
	for _, n := range append(slices.Clone(turnNumbers), p.N+1, p.N-1, p.M+1) {
		list.add(func(p *impl.Low) { p.N = n }, "N ", n)
		list.add(func(p *impl.Low) { p.M = n }, "M ", n)
		list.add(func(p *impl.Low) { p.Con = n }, "Con ", n)
	}
	for _, lit := range []string{"", "a", " ~!#[]", strings.Repeat("a", impl.MaxLit), strings.Repeat("a", impl.MaxLit+1), `"`, `\`, "\n", "\x7f", "\x1f"} {
		list.add(func(p *impl.Low) { p.Lit = []byte(lit) }, "Lit ", lit)
	}
	types := append(otherInOnePlace(p.Ty), tyUnit, tyInt, tyText, tyVar(0), tyOf(impl.TyFun, tyInt, tyInt), tyOf(impl.TyPair, tyInt, tyUnit), inRef(tyInt), tyData(0), tyData(1), tyData(2), tyData(0, tyInt), tyData(impl.MaxData),
		impl.Ty{Kind: 8}, refs(impl.MaxDepth, tyInt), refs(impl.MaxDepth+1, tyInt), inRef(tyVar(0)), inRef(tyData(9)), inRef(tyData(0, tyInt)), inRef(p.Ty), tyOf(impl.TyPair, p.Ty, p.Ty), tyOf(impl.TyFun, p.Ty, tyInt))
	for _, ty := range types {
		list.add(func(p *impl.Low) { p.Ty = ty }, "Ty ", ty)
	}
	for _, ty := range append(otherInOnePlace(p.Fun), types[len(types)-12:]...) {
		list.add(func(p *impl.Low) { p.Fun = ty }, "Fun ", ty)
	}
	return list
}

// lowTreeTurns are turns of Kids, Alts and Vars: one too few, one too many, another one.
func lowTreeTurns(p impl.Low) lowTurns {
	var list lowTurns
	others := []impl.Low{{Kind: impl.ExInt, Ty: tyInt}, {}, {Kind: impl.ExText, Ty: tyText}, {Kind: impl.ExVar, N: 0, Ty: tyInt}, {Kind: impl.ExFn, N: 0, Ty: tyOf(impl.TyFun, tyInt, tyUnit), Kids: []impl.Low{{}}},
		{Kind: impl.ExFn, N: impl.MaxNum, Ty: tyOf(impl.TyFun, tyInt, tyInt), Kids: []impl.Low{{Kind: impl.ExVar, N: impl.MaxNum, Ty: tyInt}}}, {Kind: impl.ExRaise, Ty: tyData(0), Kids: []impl.Low{{Kind: impl.ExInt, Ty: tyInt}}}}
	for k, other := range others {
		list.add(func(p *impl.Low) { p.Kids = append(p.Kids, other) }, "Kids and ", k)
		list.add(func(p *impl.Low) { p.Kids = slices.Insert(p.Kids, 0, other) }, "Kids ahead ", k)
		for i := range p.Kids {
			list.add(func(p *impl.Low) { p.Kids[i] = other }, "Kid ", i, " ", k)
		}
		for i := range p.Alts {
			list.add(func(p *impl.Low) { p.Alts[i].Body = other }, "body ", i, " ", k)
		}
		for con := -2; con < 4; con++ {
			list.add(func(p *impl.Low) { p.Alts = append(p.Alts, impl.LowAlt{Con: con, Body: other}) }, "alt of ", con, " ", k)
		}
	}
	list.add(func(p *impl.Low) { slices.Reverse(p.Kids) }, "Kids turned round")
	list.add(func(p *impl.Low) { slices.Reverse(p.Alts) }, "Alts turned round")
	list.add(func(p *impl.Low) { p.Kids = nil }, "no Kids")
	list.add(func(p *impl.Low) { p.Alts = nil }, "no Alts")
	for i := range p.Kids {
		list.add(func(p *impl.Low) { p.Kids = slices.Delete(p.Kids, i, i+1) }, "Kids without ", i)
	}
	for i, alt := range p.Alts {
		list.add(func(p *impl.Low) { p.Alts = slices.Delete(p.Alts, i, i+1) }, "Alts without ", i)
		list.add(func(p *impl.Low) { p.Alts = slices.Insert(p.Alts, 0, p.Alts[i]) }, "Alts twice ", i)
		for con := -2; con < 5; con++ {
			list.add(func(p *impl.Low) { p.Alts[i].Con = con }, "alt ", i, " of ", con)
		}
		for _, n := range turnNumbers {
			list.add(func(p *impl.Low) { p.Alts[i].Vars = append(p.Alts[i].Vars, n) }, "Vars and ", i, " ", n)
			for k := range alt.Vars {
				list.add(func(p *impl.Low) { p.Alts[i].Vars[k] = n }, "Vars ", i, " ", k, " ", n)
			}
		}
		for k := range alt.Vars {
			list.add(func(p *impl.Low) { p.Alts[i].Vars = slices.Delete(p.Alts[i].Vars, k, k+1) }, "Vars ", i, " without ", k)
		}
		list.add(func(p *impl.Low) { slices.Reverse(p.Alts[i].Vars) }, "Vars ", i, " turned round")
	}
	return list
}

// turnTexts have together all kinds, with and without layouts.
var turnTexts = []string{
	"unit", `(cat "a" "b")`, "(let id (fn x x) (pair (id 1) (id unit)))", "(rec f x (if x (f (sub x 1)) x) (f 3))", "(rec f l (match l (Nil 0) (Cons h r (add h (f r)))) (f (Cons 1 Nil)))",
	`(match (Both 1 "a") (Both x y (pair x y)))`, "(match Ghost (Half x x) (_ (raise 1)))", "(match Yes (Yes 1) (_ 2))", "(try (raise tick) x (add x (draw 1)))", "(write (ref 1) (read (ref 2)))",
	`(pair (fst (pair (print "a") 1)) (snd (pair 1 (put (get 1) (len "a")))))`, "(let m (fn l (match l (Cons h r h) (Nil (raise 1)))) (pair (m (Cons 1 Nil)) (m (Cons Yes Nil))))",
}

// TestWholesWithOneFieldTurned holds WholeOk against the document's words, at each turn of each part of what Mono tells.
func TestWholesWithOneFieldTurned(t *testing.T) {
	taken, refused := 0, 0
	for _, text := range turnTexts {
		w := wholeOf(t, text)
		if !rawWholeOk(w) {
			t.Fatalf("%s: the test's own judge: %s", text, sayLow(w.Body))
		}
		for place, p := range lowPlaces(&w.Body) {
			for _, turn := range slices.Concat(lowTurnsOf(*p), lowTreeTurns(*p)) {
				turned := copyWhole(w)
				turn.do(lowPlaces(&turned.Body)[place])
				ok := rawWholeOk(turned)
				if impl.WholeOk(turned) != ok {
					t.Fatalf("%s, part %d, %s: WholeOk is %v: %v", text, place, turn.what, !ok, turned)
				}
				if ok {
					taken++
				} else {
					refused++
				}
			}
		}
	}
	if taken < 500 || refused < 20000 {
		t.Errorf("the test's own turns: %d taken, %d refused", taken, refused)
	}
}

// TestWholesWithOneLayoutTurned: the same of the layouts.
func TestWholesWithOneLayoutTurned(t *testing.T) {
	taken, refused := 0, 0
	for _, text := range turnTexts {
		w := wholeOf(t, text)
		for what, turn := range layoutTurns(w.Layouts) {
			turned := copyWhole(w)
			turned.Layouts = turn(turned.Layouts)
			ok := rawWholeOk(turned)
			if impl.WholeOk(turned) != ok {
				t.Fatalf("%s, %s: WholeOk is %v: %s %s", text, what, !ok, sayLayouts(turned.Layouts), sayLow(turned.Body))
			}
			if ok {
				taken++
			} else {
				refused++
			}
		}
	}
	if taken < 150 || refused < 300 {
		t.Errorf("the test's own turns: %d taken, %d refused", taken, refused)
	}
}

func layoutTurns(layouts []impl.Layout) map[string]func(list []impl.Layout) []impl.Layout {
	turns := map[string]func(list []impl.Layout) []impl.Layout{
		"none": func(list []impl.Layout) []impl.Layout { return nil }, "turned round": func(list []impl.Layout) []impl.Layout { slices.Reverse(list); return list },
	}
	types := []impl.Ty{tyUnit, tyInt, tyText, tyVar(0), tyData(0), tyData(1), tyData(len(layouts) - 1), tyData(len(layouts)), tyData(0, tyInt), inRef(tyVar(0)), inRef(tyData(0)), refs(impl.MaxDepth, tyInt), refs(impl.MaxDepth+1, tyInt), {Kind: 8}}
	for k, ty := range types {
		turns[fmt.Sprint("one more of type ", k)] = func(list []impl.Layout) []impl.Layout {
			return append(list, impl.Layout{Cons: [][]impl.Ty{{ty}}})
		}
	}
	for count := impl.MaxData - 1; count <= impl.MaxData+1; count++ {
		turns[fmt.Sprint(count, " of them")] = func(list []impl.Layout) []impl.Layout {
			return append(list, slices.Repeat([]impl.Layout{{Cons: [][]impl.Ty{nil}}}, count-len(list))...)
		}
	}
	for i, layout := range layouts {
		at := func(what string, do func(layout *impl.Layout)) {
			turns[fmt.Sprint(i, " ", what)] = func(list []impl.Layout) []impl.Layout { do(&list[i]); return list }
		}
		turns[fmt.Sprint(i, " left out")] = func(list []impl.Layout) []impl.Layout { return slices.Delete(list, i, i+1) }
		at("no constructors", func(layout *impl.Layout) { layout.Cons = nil })
		for count := range impl.MaxCons + 3 {
			at(fmt.Sprint(count, " more constructors"), func(layout *impl.Layout) { layout.Cons = append(layout.Cons, make([][]impl.Ty, count)...) })
		}
		for k, fields := range layout.Cons {
			at(fmt.Sprint("without constructor ", k), func(layout *impl.Layout) { layout.Cons = slices.Delete(layout.Cons, k, k+1) })
			for count := range impl.MaxFields + 3 {
				at(fmt.Sprint(count, " more Fields in ", k), func(layout *impl.Layout) {
					layout.Cons[k] = append(layout.Cons[k], slices.Repeat([]impl.Ty{tyInt}, count)...)
				})
			}
			for f := range fields {
				at(fmt.Sprint("without Field ", k, " ", f), func(layout *impl.Layout) { layout.Cons[k] = slices.Delete(layout.Cons[k], f, f+1) })
				for n, ty := range types {
					at(fmt.Sprint("Field ", k, " ", f, " ", n), func(layout *impl.Layout) { layout.Cons[k][f] = ty })
				}
			}
		}
	}
	return turns
}

// TestLowTurnsThatAreRefused: turns whose answer is plain, without the judge.
func TestLowTurnsThatAreRefused(t *testing.T) {
	const text = "(rec f l (match l (Nil 0) (Cons h r (add h (f r)))) (let g (fn x x) (f (Cons (g 1) (g Nil)))))"
	w := wholeOf(t, text)
	const plain = "(rec 0 1<(fun (data 0) int)> (match 0 #1:(data 0) (0 0:int) (1 2 3 (add #2:int (app #0:(fun (data 0) int) #3:(data 0)):int):int)):int " +
		"(let 4 (fn 6 #6:int):(fun int int) (let 5 (fn 7 #7:(data 0)):(fun (data 0) (data 0)) " +
		"(app #0:(fun (data 0) int) (con 0.1 (app #4:(fun int int) 1:int):int (app #5:(fun (data 0) (data 0)) (con 0.0):(data 0)):(data 0)):(data 0)):int):int):int):int"
	if sayLow(w.Body) != plain || sayLayouts(w.Layouts) != "{- | int (data 0)}" {
		t.Fatal("the test's own text:", sayLow(w.Body))
	}
	match := func(e *impl.Low) *impl.Low { return &e.Kids[0] }
	let := func(e *impl.Low) *impl.Low { return &e.Kids[1] }
	con := func(e *impl.Low) *impl.Low { return &e.Kids[1].Kids[1].Kids[1].Kids[1] }
	for i, turn := range []func(e *impl.Low){
		func(e *impl.Low) { e.Kind = impl.ExLet },
		func(e *impl.Low) { e.Kind = -1 },
		func(e *impl.Low) { e.Kind = impl.ExCall + 1 },
		func(e *impl.Low) { e.N = 8 },
		func(e *impl.Low) { e.N = 1 },
		func(e *impl.Low) { e.N = 6 },
		func(e *impl.Low) { e.N = -1 },
		func(e *impl.Low) { e.M = 8 },
		func(e *impl.Low) { e.M = 0 },
		func(e *impl.Low) { e.M = 7 },
		func(e *impl.Low) { e.Con = 1 },
		func(e *impl.Low) { e.Lit = []byte("a") },
		func(e *impl.Low) { e.Ty = tyUnit },
		func(e *impl.Low) { e.Ty = tyVar(0) },
		func(e *impl.Low) { e.Fun = impl.Ty{} },
		func(e *impl.Low) { e.Fun = tyInt },
		func(e *impl.Low) { e.Fun = tyOf(impl.TyFun, tyData(0), tyUnit) },
		func(e *impl.Low) { e.Fun = tyOf(impl.TyFun, tyInt, tyInt) },
		func(e *impl.Low) { e.Fun = tyOf(impl.TyPair, tyData(0), tyInt) },
		func(e *impl.Low) { e.Fun = tyOf(impl.TyFun, tyData(0, tyInt), tyInt) },
		func(e *impl.Low) { e.Fun = tyOf(impl.TyFun, tyData(1), tyInt) },
		func(e *impl.Low) { e.Kids = e.Kids[:1] },
		func(e *impl.Low) { e.Kids = append(e.Kids, impl.Low{}) },
		func(e *impl.Low) { slices.Reverse(e.Kids) },
		func(e *impl.Low) { e.Alts = []impl.LowAlt{{Con: -1}} },
		func(e *impl.Low) { match(e).N = 1 },
		func(e *impl.Low) { match(e).N = -1 },
		func(e *impl.Low) { match(e).N = math.MaxInt },
		func(e *impl.Low) { match(e).M = 1 },
		func(e *impl.Low) { match(e).M = -1 },
		func(e *impl.Low) { match(e).M = math.MinInt },
		func(e *impl.Low) { match(e).Con = 1 },
		func(e *impl.Low) { match(e).Fun = tyInt },
		func(e *impl.Low) { match(e).Fun = impl.Ty{N: 1} },
		func(e *impl.Low) { match(e).Fun = impl.Ty{Args: []impl.Ty{{}}} },
		func(e *impl.Low) { match(e).Ty = tyText },
		func(e *impl.Low) { match(e).Kids = nil },
		func(e *impl.Low) { match(e).Alts = nil },
		func(e *impl.Low) { match(e).Alts = match(e).Alts[:1] },
		func(e *impl.Low) { match(e).Alts = match(e).Alts[1:] },
		func(e *impl.Low) { match(e).Alts = append(match(e).Alts, match(e).Alts[0]) },
		func(e *impl.Low) {
			match(e).Alts = append(match(e).Alts, impl.LowAlt{Con: -1, Body: impl.Low{Kind: impl.ExInt, Ty: tyInt}})
		},
		func(e *impl.Low) { match(e).Alts[0].Con = 2 },
		func(e *impl.Low) { match(e).Alts[0].Con = 1 },
		func(e *impl.Low) { match(e).Alts[0].Con = -1 },
		func(e *impl.Low) { match(e).Alts[0].Con = -2 },
		func(e *impl.Low) { match(e).Alts[0].Vars = []int{8} },
		func(e *impl.Low) { match(e).Alts[1].Vars = []int{2} },
		func(e *impl.Low) { match(e).Alts[1].Vars = []int{2, 3, 8} },
		func(e *impl.Low) { match(e).Alts[1].Vars = []int{2, 2} },
		func(e *impl.Low) { match(e).Alts[1].Vars = []int{3, 2} },
		func(e *impl.Low) { match(e).Alts[1].Vars = []int{2, 8} },
		func(e *impl.Low) { match(e).Alts[1].Vars = []int{2, 0} },
		func(e *impl.Low) { match(e).Alts[1].Body.Kids[0].N = 3 },
		func(e *impl.Low) { match(e).Alts[1].Body.Kids[0].N = 9 },
		func(e *impl.Low) { match(e).Alts[1].Body.Kids[0].N = -1 },
		func(e *impl.Low) { match(e).Alts[1].Body.Kids[0].N = math.MaxInt },
		func(e *impl.Low) { match(e).Alts[1].Body.N = impl.OpCat },
		func(e *impl.Low) { match(e).Alts[1].Body.N = impl.OpLen + 1 },
		func(e *impl.Low) { match(e).Alts[1].Body.N = -1 },
		func(e *impl.Low) { match(e).Alts[0].Body.N = mostWhole + 1 },
		func(e *impl.Low) { match(e).Alts[0].Body.N = leastWhole - 1 },
		func(e *impl.Low) { match(e).Alts[0].Body.Lit = []byte("0") },
		func(e *impl.Low) { let(e).N = 5 },
		func(e *impl.Low) { let(e).N = 6 },
		func(e *impl.Low) { let(e).N = impl.MaxNum },
		func(e *impl.Low) { let(e).M = 9 },
		func(e *impl.Low) { let(e).Fun = let(e).Kids[0].Ty },
		func(e *impl.Low) { let(e).Ty = tyUnit },
		func(e *impl.Low) { let(e).Kids[0].N = 0 },
		func(e *impl.Low) { let(e).Kids[0].N = 7 },
		func(e *impl.Low) { let(e).Kids[0].Ty = tyOf(impl.TyFun, tyInt, tyUnit) },
		func(e *impl.Low) { let(e).Kids[0].Kids[0].N = 4 },
		func(e *impl.Low) { let(e).Kids[0].Kids[0].Ty = tyUnit },
		func(e *impl.Low) { con(e).N = 1 },
		func(e *impl.Low) { con(e).N = -1 },
		func(e *impl.Low) { con(e).Con = 0 },
		func(e *impl.Low) { con(e).Con = 2 },
		func(e *impl.Low) { con(e).Con = -1 },
		func(e *impl.Low) { con(e).Ty = tyData(0, tyInt) },
		func(e *impl.Low) { con(e).Ty = tyData(1) },
		func(e *impl.Low) { con(e).Kids = con(e).Kids[:1] },
		func(e *impl.Low) { slices.Reverse(con(e).Kids) },
		func(e *impl.Low) { con(e).Kids = append(con(e).Kids, con(e).Kids[1]) },
		func(e *impl.Low) { con(e).M = 4 },
		func(e *impl.Low) { con(e).Alts = []impl.LowAlt{{}} },
	} {
		turned := copyWhole(w)
		turn(&turned.Body)
		wantWhole(t, fmt.Sprint("turn ", i), turned, false)
	}
}

// renumberLow calls a number otherwise, where it is bound and where it is asked for.
func renumberLow(e *impl.Low, from int, to int) {
	for _, p := range lowPlaces(e) {
		if p.N == from && slices.Contains([]int{impl.ExVar, impl.ExFn, impl.ExLet, impl.ExRec, impl.ExTry}, p.Kind) {
			p.N = to
		}
		if p.M == from && p.Kind == impl.ExRec {
			p.M = to
		}
		for _, alt := range p.Alts {
			for i, v := range alt.Vars {
				if v == from {
					alt.Vars[i] = to
				}
			}
		}
	}
}

// TestNumbersThatAreBound: any in 0 .. MaxNum, each once in all of Body, also where two places don't see each other.
func TestNumbersThatAreBound(t *testing.T) {
	const text = "(rec f l (match l (Nil 0) (Cons h r (try (add h (f r)) e e))) (let x (ref 1) (pair (fn y y) (f (Cons (read x) Nil)))))"
	w := wholeOf(t, text)
	bound := rawAllBinds(w.Body)
	slices.Sort(bound)
	if !slices.Equal(bound, []int{0, 1, 2, 3, 4, 5, 6}) {
		t.Fatal("the test's own text:", sayLow(w.Body))
	}
	for _, n := range bound {
		for _, to := range []int{7, 8, 25, 26, 27, 100, 675, 676, 1 << 20, 26 * 26 * 26 * 26 * 26 * 26, impl.MaxNum - 1, impl.MaxNum} {
			turned := copyWhole(w)
			renumberLow(&turned.Body, n, to)
			wantWhole(t, fmt.Sprint(n, " as ", to), turned, true)
		}
		for _, to := range []int{-1, -2, impl.MaxNum + 1, impl.MaxNum + 2, 1 << 40, math.MinInt, math.MaxInt} {
			turned := copyWhole(w)
			renumberLow(&turned.Body, n, to)
			wantWhole(t, fmt.Sprint(n, " as ", to), turned, false)
		}
		for _, to := range bound {
			turned := copyWhole(w)
			renumberLow(&turned.Body, n, to)
			wantWhole(t, fmt.Sprint(n, " as ", to), turned, n == to)
		}
	}
	id := func(n int) impl.Low {
		return impl.Low{Kind: impl.ExFn, N: n, Ty: tyOf(impl.TyFun, tyInt, tyInt), Kids: []impl.Low{{Kind: impl.ExVar, N: n, Ty: tyInt}}}
	}
	beside := func(a int, b int) impl.Whole {
		return impl.Whole{Body: impl.Low{Kind: impl.ExPair, Ty: tyOf(impl.TyPair, id(0).Ty, id(0).Ty), Kids: []impl.Low{id(a), id(b)}}}
	}
	wantWhole(t, "two functions", beside(5, 6), true)
	wantWhole(t, "two functions that bind one number", beside(5, 5), false)
}

// TestNumbersAreSeenWhereTheyAreBound: as names in chapter 6.
func TestNumbersAreSeenWhereTheyAreBound(t *testing.T) {
	num := func(n int) impl.Low { return impl.Low{Kind: impl.ExVar, N: n, Ty: tyInt} }
	one := impl.Low{Kind: impl.ExInt, N: 1, Ty: tyInt}
	fun := tyOf(impl.TyFun, tyInt, tyInt)
	self := impl.Low{Kind: impl.ExVar, N: 1, Ty: fun}
	two := func(kind int, n int, a impl.Low, b impl.Low) impl.Low {
		return impl.Low{Kind: kind, N: n, Ty: tyInt, Kids: []impl.Low{a, b}}
	}
	rec := func(a impl.Low, b impl.Low) impl.Low {
		return impl.Low{Kind: impl.ExRec, N: 1, M: 2, Fun: fun, Ty: b.Ty, Kids: []impl.Low{a, b}}
	}
	call := func(f impl.Low, x impl.Low) impl.Low {
		return impl.Low{Kind: impl.ExApp, Ty: tyInt, Kids: []impl.Low{f, x}}
	}
	fn := impl.Low{Kind: impl.ExFn, N: 1, Ty: fun, Kids: []impl.Low{num(1)}}
	layouts := []impl.Layout{{Cons: [][]impl.Ty{{tyInt}, {tyInt, tyInt}, nil}}}
	none := impl.Low{Kind: impl.ExCon, Con: 2, Ty: tyData(0)}
	match := func(first impl.Low, second impl.Low, last impl.Low) impl.Low {
		return impl.Low{Kind: impl.ExMatch, Ty: tyInt, Kids: []impl.Low{none}, Alts: []impl.LowAlt{{Con: 1, Vars: []int{1, 2}, Body: first}, {Con: 0, Vars: []int{3}, Body: second}, {Con: -1, Body: last}}}
	}
	for i, c := range []struct {
		e  impl.Low
		ok bool
	}{
		{num(0), false}, {one, true}, {fn, true}, {call(fn, one), true}, {call(fn, num(1)), false},
		{two(impl.ExLet, 1, one, num(1)), true}, {two(impl.ExLet, 1, num(1), one), false}, {two(impl.ExLet, 1, one, num(2)), false},
		{two(impl.ExTry, 1, one, num(1)), true}, {two(impl.ExTry, 1, num(1), one), false},
		{rec(num(2), one), true}, {rec(one, num(2)), false}, {rec(one, self), true}, {rec(call(self, num(2)), call(self, one)), true}, {two(impl.ExLet, 3, rec(one, one), self), false},
		{match(num(1), num(3), one), true}, {match(num(2), one, one), true}, {match(num(3), one, one), false}, {match(one, num(1), one), false}, {match(one, one, num(1)), false}, {match(one, one, num(3)), false},
		{two(impl.ExOp, impl.OpAdd, match(one, one, one), num(1)), false}, {two(impl.ExOp, impl.OpAdd, two(impl.ExLet, 1, one, one), num(1)), false}, {two(impl.ExLet, 4, one, match(num(4), num(4), num(4))), true},
	} {
		w := impl.Whole{Layouts: layouts, Body: c.e}
		wantWhole(t, fmt.Sprint(i, " ", sayLow(c.e)), w, c.ok)
		if rawWholeOk(w) != c.ok {
			t.Errorf("the test's own judge: %s", sayLow(c.e))
		}
	}
}

func TestLayoutsAtTheirLimits(t *testing.T) {
	layouts := func(count int) []impl.Layout {
		return slices.Repeat([]impl.Layout{{Cons: [][]impl.Ty{{tyData(max(count-1, 0))}}}}, count)
	}
	cons := func(count int) []impl.Layout { return []impl.Layout{{Cons: make([][]impl.Ty, count)}} }
	fields := func(list ...impl.Ty) []impl.Layout {
		return []impl.Layout{{Cons: [][]impl.Ty{nil, list}}, {Cons: [][]impl.Ty{nil}}}
	}
	for i, c := range []struct {
		list []impl.Layout
		ok   bool
	}{
		{nil, true}, {[]impl.Layout{}, true}, {layouts(1), true}, {layouts(impl.MaxData - 1), true}, {layouts(impl.MaxData), true}, {layouts(impl.MaxData + 1), false}, {layouts(100000), false},
		{cons(0), false}, {cons(1), true}, {cons(impl.MaxCons), true}, {cons(impl.MaxCons + 1), false}, {cons(100000), false}, {append(cons(1), cons(0)...), false},
		{fields(), true}, {fields(tyInt), true}, {fields(tyInt, tyText, tyUnit), true}, {fields(tyInt, tyText, tyUnit, tyInt), false}, {fields(make([]impl.Ty, 100000)...), false},
		{fields(tyData(0)), true}, {fields(tyData(1)), true}, {fields(tyData(2)), false}, {fields(tyData(-1)), false}, {fields(tyData(impl.MaxData - 1)), false}, {fields(tyData(math.MaxInt)), false},
		{fields(tyData(0, tyInt)), false}, {fields(inRef(tyData(1))), true}, {fields(inRef(tyData(2))), false}, {fields(tyOf(impl.TyPair, tyInt, tyData(0, tyInt))), false},
		{fields(tyVar(0)), false}, {fields(tyInt, tyInt, inRef(tyVar(5))), false}, {fields(tyOf(impl.TyFun, tyInt, inRef(tyVar(0)))), false}, {fields(impl.Ty{Kind: 8}), false}, {fields(impl.Ty{Kind: -1}), false}, {fields(impl.Ty{N: 1}), false}, {fields(tyOf(impl.TyRef)), false},
		{fields(refs(impl.MaxDepth, tyInt)), true}, {fields(refs(impl.MaxDepth+1, tyInt)), false}, {fields(fieldOf(impl.MaxSize)), true}, {fields(fieldOf(impl.MaxSize + 1)), false}, {fields(endlessTy()), false},
	} {
		wantWhole(t, fmt.Sprint("layouts ", i), impl.Whole{Layouts: c.list}, c.ok)
	}
	full := []impl.Layout{{Cons: make([][]impl.Ty, impl.MaxCons)}}
	unit := impl.Low{}
	match := impl.Low{Kind: impl.ExMatch, Kids: []impl.Low{{Kind: impl.ExCon, Con: impl.MaxCons - 1, Ty: tyData(0)}}}
	for con := range impl.MaxCons {
		match.Alts = append(match.Alts, impl.LowAlt{Con: con, Body: unit})
	}
	wantWhole(t, "MaxCons alts", impl.Whole{Layouts: full, Body: match}, true)
	match.Alts = append(match.Alts, impl.LowAlt{Con: -1, Body: unit})
	wantWhole(t, "MaxCons alts and a `_`", impl.Whole{Layouts: full, Body: match}, false)
	match.Alts = match.Alts[1:]
	wantWhole(t, "one alt less, and a `_`", impl.Whole{Layouts: full, Body: match}, true)
	match.Alts = match.Alts[impl.MaxCons-1:]
	wantWhole(t, "a `_` alone", impl.Whole{Layouts: full, Body: match}, false)
	wantWhole(t, "a `_` alone, of no layout", impl.Whole{Body: match}, false)
	wantWhole(t, "a constructor of no layout", impl.Whole{Body: match.Kids[0]}, false)
	wantWhole(t, "a type of no layout", impl.Whole{Body: impl.Low{Kind: impl.ExRaise, Ty: tyData(0), Kids: []impl.Low{{Kind: impl.ExInt, Ty: tyInt}}}}, false)
	wantWhole(t, "a type of the last layout", impl.Whole{Layouts: layouts(impl.MaxData), Body: impl.Low{Kind: impl.ExRaise, Ty: tyData(impl.MaxData - 1), Kids: []impl.Low{{Kind: impl.ExInt, Ty: tyInt}}}}, true)
}

var lowInt = impl.Low{Kind: impl.ExInt, N: 1, Ty: tyInt}

func lowRaise(e impl.Low) impl.Low {
	return impl.Low{Kind: impl.ExRaise, Ty: tyInt, Kids: []impl.Low{e}}
}

// lowTree answers sums of so many parts, as flat as can be.
func lowTree(parts int) impl.Low {
	switch parts {
	case 1:
		return lowInt
	case 2:
		return lowRaise(lowInt)
	}
	left := (parts - 1) / 2
	return impl.Low{Kind: impl.ExOp, N: impl.OpAdd, Ty: tyInt, Kids: []impl.Low{lowTree(left), lowTree(parts - 1 - left)}}
}

// lowAlts answers a part that is no low expression, with so many parts in its alts.
func lowAlts(parts int) impl.Low {
	e := impl.Low{Kind: 99}
	for parts > 1 {
		more := min(parts-1, 7)
		e.Alts = append(e.Alts, impl.LowAlt{Con: -9, Body: lowTree(more)})
		parts -= more
	}
	return e
}

func lowChain(depth int, by func(e impl.Low) impl.Low) impl.Low {
	e := lowInt
	for range depth - 1 {
		e = by(e)
	}
	return e
}

// rings are low expressions without an end.
func rings() []impl.Low {
	one := make([]impl.Low, 1)
	one[0] = impl.Low{Kind: impl.ExRaise, Ty: tyInt, Kids: one}
	two := make([]impl.Low, 2)
	for i := range two {
		two[i] = impl.Low{Kind: impl.ExOp, Ty: tyInt, Kids: two}
	}
	alts := []impl.LowAlt{{Con: -1}}
	alts[0].Body = impl.Low{Kind: impl.ExMatch, Ty: tyInt, Kids: []impl.Low{lowInt}, Alts: alts}
	wide := make([]impl.Low, 1000)
	for i := range wide {
		wide[i].Kids = wide
	}
	far := lowInt
	for range 3 * impl.MaxDeep {
		far = impl.Low{Kind: impl.ExOp, Ty: tyInt, Kids: []impl.Low{far, far}}
	}
	return []impl.Low{one[0], two[1], alts[0].Body, wide[7], far, {Kind: impl.ExIf, Kids: []impl.Low{lowInt, two[0], one[0]}}, lowRaise(alts[0].Body)}
}

func TestLowNodes(t *testing.T) {
	for _, parts := range []int{1, 2, 3, 4, 10, 99, impl.MaxLow - 2, impl.MaxLow - 1, impl.MaxLow, impl.MaxLow + 1, impl.MaxLow + 2, impl.MaxLow + 3, 2 * impl.MaxLow, 100000} {
		want := min(parts, impl.MaxLow+1)
		for _, e := range []impl.Low{lowTree(parts), lowAlts(parts), lowChain(parts, lowRaise), {Kids: make([]impl.Low, parts-1)}, {Kind: -5, Alts: make([]impl.LowAlt, parts-1)}} {
			if rawLowNodes(e) != parts {
				t.Fatal("the test's own tree:", parts)
			}
			if got := impl.LowNodes(e); got != want {
				t.Errorf("%d parts: %d", parts, got)
			}
		}
	}
	for i, e := range rings() {
		if got := impl.LowNodes(e); got != impl.MaxLow+1 {
			t.Errorf("ring %d: %d parts", i, got)
		}
	}
	if got := impl.LowNodes(impl.Low{Ty: endlessTy(), Fun: endlessTy()}); got != 1 {
		t.Errorf("types are no parts: %d", got)
	}
	if impl.LowNodes(impl.Low{Kids: make([]impl.Low, 3000000)}) != impl.MaxLow+1 {
		t.Error("many Kids")
	}
}

// TestWholesAtTheirLimits: MaxLow parts and a depth of 2 MaxDeep, whatever else may be.
func TestWholesAtTheirLimits(t *testing.T) {
	for _, parts := range []int{1, impl.MaxNodes, impl.MaxNodes + 1, impl.MaxLow - 1, impl.MaxLow, impl.MaxLow + 1, impl.MaxLow + 2, 100000} {
		wantWhole(t, fmt.Sprint(parts, " parts"), impl.Whole{Body: lowTree(parts)}, parts <= impl.MaxLow)
	}
	layouts := []impl.Layout{{Cons: [][]impl.Ty{nil}}}
	inAlt := func(e impl.Low) impl.Low {
		return impl.Low{Kind: impl.ExMatch, Ty: tyInt, Kids: []impl.Low{{Kind: impl.ExCon, Ty: tyData(0)}}, Alts: []impl.LowAlt{{Body: e}}}
	}
	number := 0
	inLet := func(e impl.Low) impl.Low {
		number++
		return impl.Low{Kind: impl.ExLet, N: number, Ty: tyInt, Kids: []impl.Low{lowInt, e}}
	}
	for _, by := range []func(e impl.Low) impl.Low{lowRaise, inAlt, inLet} {
		for _, depth := range []int{1, 2, impl.MaxDeep, impl.MaxDeep + 1, 2*impl.MaxDeep - 1, 2 * impl.MaxDeep, 2*impl.MaxDeep + 1, 2*impl.MaxDeep + 2, 3 * impl.MaxDeep, impl.MaxLow} {
			wantWhole(t, fmt.Sprint("a depth of ", depth), impl.Whole{Layouts: layouts, Body: lowChain(depth, by)}, depth <= 2*impl.MaxDeep)
		}
	}
	for i, e := range rings() {
		wantWhole(t, fmt.Sprint("ring ", i), impl.Whole{Layouts: layouts, Body: e}, false)
	}
	for i, e := range []impl.Low{
		{Ty: endlessTy()}, {Fun: endlessTy()}, {Kind: impl.ExRaise, Ty: endlessTy(), Kids: []impl.Low{lowInt}}, {Kind: impl.ExRec, N: 1, Fun: endlessTy(), Ty: tyInt, Kids: []impl.Low{lowInt, lowInt}},
		{Kind: impl.ExIf, Ty: endlessTy(), Kids: []impl.Low{lowInt, {Kind: impl.ExRaise, Ty: endlessTy(), Kids: []impl.Low{lowInt}}, {Kind: impl.ExRaise, Ty: endlessTy(), Kids: []impl.Low{lowInt}}}},
		{Kind: impl.ExText, Ty: tyText, Lit: make([]byte, 1000000)}, {Kind: impl.ExMatch, Ty: tyInt, Kids: []impl.Low{{Kind: impl.ExCon, Ty: tyData(0)}}, Alts: []impl.LowAlt{{Vars: make([]int, 1000000), Body: lowInt}}},
		{Kind: impl.ExPair, Kids: make([]impl.Low, 3000000)}, {Kind: math.MaxInt}, {Kind: math.MinInt},
	} {
		wantWhole(t, fmt.Sprint("whole ", i), impl.Whole{Layouts: layouts, Body: e}, false)
	}
	wantWhole(t, "the zero value", impl.Whole{}, true)
}

// wantUnchanged looks whether WholeOk and LowNodes read or write behind a list, or change what they are asked about.
func wantUnchanged(t *testing.T, w impl.Whole) {
	t.Helper()
	arg := roomyWhole(w)
	if impl.WholeOk(arg) != impl.WholeOk(w) || impl.LowNodes(arg.Body) != impl.LowNodes(w.Body) {
		t.Errorf("%v: what lies behind a list was read", w)
	}
	all := newRoll()
	all.whole(arg)
	if all.spoilt || !sameWhole(arg, w) {
		t.Errorf("%v: the argument was changed", w)
	}
}

func TestAskingChangesNoWhole(t *testing.T) {
	for _, text := range slices.Concat(turnTexts, wellTexts) {
		w := wholeOf(t, text)
		wantUnchanged(t, w)
		for _, turn := range []func(w *impl.Whole){
			func(w *impl.Whole) { w.Body.N++ }, func(w *impl.Whole) { w.Body.Ty = tyData(3) }, func(w *impl.Whole) { w.Body.M = -1 }, func(w *impl.Whole) { w.Body.Lit = []byte("l") }, func(w *impl.Whole) { w.Layouts = nil },
			func(w *impl.Whole) { w.Layouts = append(w.Layouts, impl.Layout{}) }, func(w *impl.Whole) { w.Body.Kids = append(w.Body.Kids, lowInt) }, func(w *impl.Whole) { w.Body = lowChain(100, lowRaise) },
			func(w *impl.Whole) { w.Body = lowRaise(w.Body) }, func(w *impl.Whole) { w.Body.Alts = append(w.Body.Alts, impl.LowAlt{Con: -1, Vars: []int{3, 2, 1}}) },
		} {
			turned := copyWhole(w)
			turn(&turned)
			wantUnchanged(t, turned)
		}
	}
}

// TestWholesWhosePartsShare: lists that stand in several places are asked as if each had its own.
func TestWholesWhosePartsShare(t *testing.T) {
	fields := []impl.Ty{tyData(0), tyInt}
	cons := [][]impl.Ty{fields, fields}
	layouts := []impl.Layout{{Cons: cons}, {Cons: cons}}
	kids := []impl.Low{lowInt, lowInt}
	sum := impl.Low{Kind: impl.ExOp, Ty: tyInt, Kids: kids}
	wantWhole(t, "parts that share", impl.Whole{Layouts: layouts, Body: impl.Low{Kind: impl.ExOp, Ty: tyInt, Kids: []impl.Low{sum, sum}}}, true)
	vars := []int{1, 2}
	match := impl.Low{Kind: impl.ExMatch, Ty: tyInt, Kids: []impl.Low{{Kind: impl.ExRaise, Ty: tyData(0), Kids: kids[:1]}}, Alts: []impl.LowAlt{{Con: 0, Vars: vars, Body: sum}, {Con: 1, Vars: vars, Body: sum}}}
	wantWhole(t, "Vars that share bind a number twice", impl.Whole{Layouts: layouts, Body: match}, false)
	match.Alts[1].Vars = []int{3, 4}
	wantWhole(t, "Vars of their own", impl.Whole{Layouts: layouts, Body: match}, true)
}
