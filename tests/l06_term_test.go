package tests

import (
	"fmt"
	"math"
	"slices"
	"strings"
	"sync"
	"testing"

	"loop.example/g00293/impl"
)

// The raw functions below say of terms with an end what the document's list says, kind by kind.

// rawNamed answers the names that e binds in each of its parts.
func rawNamed(e impl.Expr) [][]string {
	names := make([][]string, len(rawParts(e)))
	switch e.Kind {
	case impl.ExFn:
		names[0] = []string{string(e.Name)}
	case impl.ExLet, impl.ExTry:
		names[1] = []string{string(e.Name)}
	case impl.ExRec:
		names[0] = []string{string(e.Name), string(e.Arg)}
		names[1] = []string{string(e.Name)}
	}
	for i, a := range e.Arms {
		for _, v := range a.Vars {
			names[len(e.Kids)+i] = append(names[len(e.Kids)+i], string(v))
		}
	}
	return names
}

// rawFields answers how many Fields the constructor has, and of which data it is; -1 of none.
func rawFields(datas []impl.Data, con []byte) (int, int) {
	for i, d := range datas {
		for _, c := range d.Cons {
			if sameText(c.Name, con) {
				return len(c.Fields), i
			}
		}
	}
	return -1, -1
}

func rawNamesIn(datas []impl.Data, e impl.Expr, bound []string) bool {
	ok := e.Kind != impl.ExVar || slices.Contains(bound, string(e.Name))
	if e.Kind == impl.ExCon {
		count, _ := rawFields(datas, e.Name)
		ok = count == len(e.Kids)
	}
	for _, a := range e.Arms {
		if count, _ := rawFields(datas, a.Con); len(a.Con) > 0 && count != len(a.Vars) {
			ok = false
		}
	}
	names := rawNamed(e)
	for i, part := range rawParts(e) {
		ok = ok && rawNamesIn(datas, part, slices.Concat(bound, names[i]))
	}
	return ok
}

func rawNamesOk(s impl.Source) bool {
	return rawSourceOk(s) && rawNamesIn(s.Datas, s.Body, nil)
}

func rawArmsIn(datas []impl.Data, e impl.Expr) bool {
	if e.Kind == impl.ExMatch {
		there, wild, homes := map[string]int{}, 0, map[int]bool{}
		for _, a := range e.Arms {
			if len(a.Con) == 0 {
				wild++
				continue
			}
			_, home := rawFields(datas, a.Con)
			homes[home] = true
			there[string(a.Con)]++
		}
		if len(homes) != 1 || len(there)+wild != len(e.Arms) || wild > 1 || wild == 1 && len(e.Arms[len(e.Arms)-1].Con) > 0 {
			return false
		}
		for home := range homes {
			if (len(there) == len(datas[home].Cons)) == (wild == 1) {
				return false
			}
		}
	}
	return !slices.ContainsFunc(rawParts(e), func(part impl.Expr) bool { return !rawArmsIn(datas, part) })
}

func rawArmsOk(s impl.Source) bool {
	return rawNamesOk(s) && rawArmsIn(s.Datas, s.Body)
}

// rawTermForm says whether rawStrip may be asked, and would lose nothing but types.
func rawTermForm(datas []impl.Data, t impl.Term) bool {
	ok := t.Con == 0
	data := t.N >= 0 && t.N < len(datas)
	switch t.Kind {
	case impl.ExCon:
		ok = data && t.Con >= 0 && t.Con < len(datas[t.N].Cons) && len(t.Name) == 0
	case impl.ExMatch:
		ok = ok && data
	}
	for _, alt := range t.Alts {
		ok = ok && t.Kind == impl.ExMatch && alt.Con >= -1 && alt.Con < len(datas[t.N].Cons)
	}
	return ok && !slices.ContainsFunc(termParts(t), func(part impl.Term) bool { return !rawTermForm(datas, part) })
}

func rawTermOk(datas []impl.Data, t impl.Term) bool {
	return rawDatasOk(datas) && rawTermForm(datas, t) && rawArmsOk(impl.Source{Datas: datas, Body: rawStrip(datas, t)}) &&
		rawJudge{datas}.typed(t, nil, nil)
}

// A rawBinding is a name that is bound at a type, for all of some variables.
type rawBinding struct {
	name  string
	ty    impl.Ty
	quant []int
}

type rawJudge struct{ datas []impl.Data }

// open says whether ty is a type over the datas, of open variables.
func (j rawJudge) open(ty impl.Ty, open []int) bool {
	if !impl.TyOk(ty) || ty.Kind == impl.TyVar && !slices.Contains(open, ty.N) {
		return false
	}
	if ty.Kind == impl.TyData && (ty.N >= len(j.datas) || j.datas[ty.N].Vars != len(ty.Args)) {
		return false
	}
	return !slices.ContainsFunc(ty.Args, func(arg impl.Ty) bool { return !j.open(arg, open) })
}

// rawValue is the document's list of values.
func rawValue(t impl.Term) bool {
	switch t.Kind {
	case impl.ExUnit, impl.ExInt, impl.ExText, impl.ExVar, impl.ExFn:
		return true
	case impl.ExPair, impl.ExCon:
		return !slices.ContainsFunc(t.Kids, func(kid impl.Term) bool { return !rawValue(kid) })
	}
	return false
}

// marks looks at Quant and Inst, and answers what is open in the first Kid.
func (j rawJudge) marks(t impl.Term, open []int) ([]int, bool) {
	inner := slices.Clone(open)
	for _, v := range t.Quant {
		if v < 0 || v >= impl.MaxVar || slices.Contains(inner, v) {
			return nil, false
		}
		inner = append(inner, v)
	}
	if len(t.Quant) > 0 && t.Kind != impl.ExRec && (t.Kind != impl.ExLet || !rawValue(t.Kids[0])) {
		return nil, false
	}
	count := 0
	switch t.Kind {
	case impl.ExVar:
		count = len(t.Inst) // held against the binding
	case impl.ExRec:
		count = 1
	case impl.ExCon, impl.ExMatch:
		count = j.datas[t.N].Vars
	}
	return inner, len(t.Inst) == count && !slices.ContainsFunc(t.Inst, func(ty impl.Ty) bool { return !j.open(ty, inner) })
}

func (j rawJudge) typed(t impl.Term, names []rawBinding, open []int) bool {
	inner, ok := j.marks(t, open)
	if !ok || !j.open(t.Ty, open) {
		return false
	}
	binds := make([][]rawBinding, len(termParts(t)))
	opens := slices.Repeat([][]int{open}, len(binds))
	switch t.Kind {
	case impl.ExVar:
		return j.variable(t, names)
	case impl.ExFn:
		if t.Ty.Kind != impl.TyFun || !rawSame(t.Ty.Args[1], t.Kids[0].Ty) {
			return false
		}
		binds[0] = []rawBinding{{string(t.Name), t.Ty.Args[0], nil}}
	case impl.ExLet:
		if !rawSame(t.Ty, t.Kids[1].Ty) {
			return false
		}
		opens[0] = inner
		binds[1] = []rawBinding{{string(t.Name), t.Kids[0].Ty, t.Quant}}
	case impl.ExRec:
		f := t.Inst[0]
		if f.Kind != impl.TyFun || !rawSame(f.Args[1], t.Kids[0].Ty) || !rawSame(t.Ty, t.Kids[1].Ty) {
			return false
		}
		opens[0] = inner
		binds[0] = []rawBinding{{string(t.Name), f, nil}, {string(t.Arg), f.Args[0], nil}}
		binds[1] = []rawBinding{{string(t.Name), f, t.Quant}}
	case impl.ExTry:
		if !rawSame(t.Ty, t.Kids[0].Ty) || !rawSame(t.Ty, t.Kids[1].Ty) {
			return false
		}
		binds[1] = []rawBinding{{string(t.Name), tyInt, nil}}
	case impl.ExMatch:
		if !rawSame(t.Kids[0].Ty, tyData(t.N, t.Inst...)) {
			return false
		}
		for i, alt := range t.Alts {
			if !rawSame(alt.Body.Ty, t.Ty) {
				return false
			}
			for k, v := range alt.Vars {
				field := rawSubst(j.datas[t.N].Cons[alt.Con].Fields[k], t.Inst)
				if !impl.TyOk(field) {
					return false
				}
				binds[1+i] = append(binds[1+i], rawBinding{string(v), field, nil})
			}
		}
	default:
		if !j.plain(t) {
			return false
		}
	}
	for i, part := range termParts(t) {
		if !j.typed(part, slices.Concat(names, binds[i]), opens[i]) {
			return false
		}
	}
	return true
}

func (j rawJudge) variable(t impl.Term, names []rawBinding) bool {
	for _, b := range slices.Backward(names) {
		if b.name != string(t.Name) {
			continue
		}
		var put func(ty impl.Ty) impl.Ty
		put = func(ty impl.Ty) impl.Ty {
			if at := slices.Index(b.quant, ty.N); ty.Kind == impl.TyVar && at >= 0 {
				return t.Inst[at]
			}
			got := impl.Ty{Kind: ty.Kind, N: ty.N}
			for _, arg := range ty.Args {
				got.Args = append(got.Args, put(arg))
			}
			return got
		}
		return len(t.Inst) == len(b.quant) && rawSame(t.Ty, put(b.ty))
	}
	return false
}

// plain says it of a kind that binds nothing.
func (j rawJudge) plain(t impl.Term) bool {
	var k, l, m impl.Ty
	for i, ty := range []*impl.Ty{&k, &l, &m} {
		if i < len(t.Kids) {
			*ty = t.Kids[i].Ty
		}
	}
	is := func(types ...impl.Ty) bool {
		return slices.EqualFunc([]impl.Ty{k, l, m, t.Ty}[:len(t.Kids)], types[:len(types)-1], rawSame) && rawSame(t.Ty, types[len(types)-1])
	}
	switch t.Kind {
	case impl.ExUnit:
		return is(tyUnit)
	case impl.ExInt:
		return is(tyInt)
	case impl.ExText:
		return is(tyText)
	case impl.ExApp:
		return rawSame(k, tyOf(impl.TyFun, l, t.Ty))
	case impl.ExIf:
		return is(tyInt, t.Ty, t.Ty, t.Ty)
	case impl.ExPair:
		return rawSame(t.Ty, tyOf(impl.TyPair, k, l))
	case impl.ExFst, impl.ExSnd:
		return k.Kind == impl.TyPair && rawSame(t.Ty, k.Args[t.Kind-impl.ExFst])
	case impl.ExRef:
		return rawSame(t.Ty, inRef(k))
	case impl.ExRead:
		return rawSame(k, inRef(t.Ty))
	case impl.ExWrite:
		return rawSame(k, inRef(l)) && rawSame(t.Ty, tyUnit)
	case impl.ExRaise:
		return rawSame(k, tyInt)
	case impl.ExCon:
		for i, field := range j.datas[t.N].Cons[t.Con].Fields {
			if !rawSame(t.Kids[i].Ty, rawSubst(field, t.Inst)) {
				return false
			}
		}
		return rawSame(t.Ty, tyData(t.N, t.Inst...))
	case impl.ExOp:
		return is([][]impl.Ty{impl.OpCat: {tyText, tyText, tyText}, impl.OpLen: {tyText, tyInt}}[max(t.N, impl.OpCat)]...) && t.N >= impl.OpCat ||
			t.N < impl.OpCat && is(tyInt, tyInt, tyInt)
	}
	return is([][]impl.Ty{{tyText, tyUnit}, {tyInt}, {tyInt, tyInt}, {tyInt, tyInt}, {tyInt, tyInt, tyUnit}}[t.N]...)
}

// termOf answers what Infer tells of a body behind someData.
func termOf(t *testing.T, text string) ([]impl.Data, impl.Term) {
	t.Helper()
	s := behindData(t, text)
	return s.Datas, wantWell(t, s)
}

// wantTermOk looks for what TermOk says of the term of a text that is turned in some way.
func wantTermOk(t *testing.T, ok bool, text string, turn func(term *impl.Term)) {
	t.Helper()
	datas, term := termOf(t, text)
	turn(&term)
	if impl.TermOk(datas, term) != ok {
		t.Errorf("%s, turned: TermOk is %v: %v", text, !ok, term)
	}
}

// overTypes is term with each type of each part put through swap.
func overTypes(term *impl.Term, swap func(ty impl.Ty) impl.Ty) {
	term.Ty = swap(term.Ty)
	for i := range term.Inst {
		term.Inst[i] = swap(term.Inst[i])
	}
	for i := range term.Kids {
		overTypes(&term.Kids[i], swap)
	}
	for i := range term.Alts {
		overTypes(&term.Alts[i].Body, swap)
	}
}

// putFor answers what puts a type for a variable.
func putFor(v int, with impl.Ty) func(impl.Ty) impl.Ty {
	var swap func(ty impl.Ty) impl.Ty
	swap = func(ty impl.Ty) impl.Ty {
		if ty.Kind == impl.TyVar && ty.N == v {
			return with
		}
		got := impl.Ty{Kind: ty.Kind, N: ty.N}
		for _, arg := range ty.Args {
			got.Args = append(got.Args, swap(arg))
		}
		return got
	}
	return swap
}

// renumber calls a variable otherwise, in Quant, too.
func renumber(term *impl.Term, from int, to int) {
	overTypes(term, putFor(from, tyVar(to)))
	renumberQuant(term, from, to)
}

func renumberQuant(term *impl.Term, from int, to int) {
	for i, v := range term.Quant {
		if v == from {
			term.Quant[i] = to
		}
	}
	for i := range term.Kids {
		renumberQuant(&term.Kids[i], from, to)
	}
	for i := range term.Alts {
		renumberQuant(&term.Alts[i].Body, from, to)
	}
}

func TestWhatIsToldIsTermOk(t *testing.T) {
	for _, text := range wellTexts {
		datas, term := termOf(t, text)
		if !impl.TermOk(datas, term) || !rawTermOk(datas, term) {
			t.Errorf("%s: not TermOk: %s", text, sayTerm(term))
		}
	}
	if !impl.TermOk(nil, impl.Term{}) {
		t.Error("the zero value is unit")
	}
}

// TestVariablesOfATermMayBeCalledOtherwise: but not what is no variable, and no two alike.
func TestVariablesOfATermMayBeCalledOtherwise(t *testing.T) {
	const one, two = "(let id (fn x x) (pair (id 1) (id unit)))", "(let k (fn x (fn y x)) ((k 1) unit))"
	for _, to := range []int{0, 1, 7, 59, 60, 61, 400, impl.MaxVar - 2, impl.MaxVar - 1} {
		wantTermOk(t, true, one, func(term *impl.Term) { renumber(term, 0, to) })
		wantTermOk(t, to != 1, "(rec f x (f x) (f 1))", func(term *impl.Term) { renumber(term, 0, to) })
	}
	for _, to := range []int{impl.MaxVar, impl.MaxVar + 1, -1, math.MinInt, math.MaxInt} {
		wantTermOk(t, false, one, func(term *impl.Term) { renumber(term, 0, to) })
		wantTermOk(t, false, one, func(term *impl.Term) { term.Quant[0] = to })
		wantTermOk(t, false, "(let x 1 x)", func(term *impl.Term) { term.Quant, term.Kids[1].Inst = []int{to}, []impl.Ty{tyInt} })
		wantTermOk(t, false, "(let x 1 2)", func(term *impl.Term) { term.Quant = []int{to} })
		wantTermOk(t, false, "(rec f x 1 2)", func(term *impl.Term) { term.Quant = append(term.Quant, to) })
	}
	wantTermOk(t, true, two, func(term *impl.Term) { renumber(term, 0, 5); renumber(term, 1, 3) })
	wantTermOk(t, false, two, func(term *impl.Term) { renumber(term, 0, 1) })
	wantTermOk(t, false, "(let x 1 2)", func(term *impl.Term) { term.Quant = []int{4, 4} })
	wantTermOk(t, false, "(let x 1 2)", func(term *impl.Term) { term.Quant = []int{4, 5, 4} })
	wantTermOk(t, true, "(let x 1 2)", func(term *impl.Term) { term.Quant = []int{4, 5, 3} })
}

// TestQuantWithinQuant: in the first Kid what is for all around it is open, and may not be for all again; in the second one it may.
func TestQuantWithinQuant(t *testing.T) {
	const text = "(let a (fn x (let b (fn y y) x)) (let c (fn z z) 1))"
	if _, term := termOf(t, text); strings.Join(quantsOf(term), " ") != "a[0] b[1] c[2]" {
		t.Fatal("the test's own text:", sayTerm(term))
	}
	wantTermOk(t, true, text, func(term *impl.Term) { renumber(term, 2, 0) })
	wantTermOk(t, true, text, func(term *impl.Term) { renumber(term, 2, 1) })
	wantTermOk(t, true, text, func(term *impl.Term) { renumber(term, 1, 2) })
	wantTermOk(t, false, text, func(term *impl.Term) { renumber(term, 1, 0) })
	const rec = "(rec a x (let b (fn y y) (a x)) (rec c z z 1))"
	if _, term := termOf(t, rec); strings.Join(quantsOf(term), " ") != "a[0 1] b[2] c[3]" {
		t.Fatal("the test's own text:", sayTerm(term))
	}
	wantTermOk(t, true, rec, func(term *impl.Term) { renumber(term, 3, 0) })
	wantTermOk(t, true, rec, func(term *impl.Term) { renumber(term, 3, 2) })
	wantTermOk(t, false, rec, func(term *impl.Term) { renumber(term, 2, 0) })
	wantTermOk(t, false, rec, func(term *impl.Term) { renumber(term, 2, 1) })
}

// TestQuantThatIsLessOrMore: a term need not be the most general one.
func TestQuantThatIsLessOrMore(t *testing.T) {
	less := func(with impl.Ty) func(term *impl.Term) {
		return func(term *impl.Term) {
			overTypes(term, putFor(0, with))
			term.Quant = nil
			term.Kids[1].Kids[0].Inst = nil
		}
	}
	wantTermOk(t, true, "(let id (fn x x) (id 1))", less(tyInt))
	wantTermOk(t, false, "(let id (fn x x) (id 1))", less(tyText))
	wantTermOk(t, false, "(let id (fn x x) (id 1))", less(tyVar(0)))
	wantTermOk(t, true, "(rec id x x (id 1))", less(tyInt))
	wantTermOk(t, false, "(rec id x x (id 1))", less(tyUnit))
	wantTermOk(t, true, "(let k (fn x (fn y x)) 1)", func(term *impl.Term) { overTypes(term, putFor(1, tyVar(0))); term.Quant = []int{0} })
	wantTermOk(t, true, "(let k (fn x (fn y x)) 1)", func(term *impl.Term) { overTypes(term, putFor(1, refs(3, tyVar(0)))); term.Quant = []int{0} })
	wantTermOk(t, false, "(let k (fn x (fn y x)) 1)", func(term *impl.Term) { term.Quant = []int{0} })
	wantTermOk(t, false, "(let k (fn x (fn y x)) 1)", func(term *impl.Term) { term.Quant = nil })
	more := func(inst ...impl.Ty) func(term *impl.Term) {
		return func(term *impl.Term) {
			term.Quant = append(term.Quant, 9)
			term.Kids[1].Kids[0].Inst = append(term.Kids[1].Kids[0].Inst, inst...)
		}
	}
	for _, text := range []string{"(let id (fn x x) (id 1))", "(rec id x x (id 1))"} {
		wantTermOk(t, true, text, more(tyText))
		wantTermOk(t, true, text, more(tyData(0, tyUnit)))
		wantTermOk(t, false, text, more())
		wantTermOk(t, false, text, more(tyText, tyText))
		wantTermOk(t, false, text, more(tyData(0)))
		wantTermOk(t, false, text, more(tyData(4)))
		wantTermOk(t, false, text, more(tyVar(0)))
		wantTermOk(t, false, text, more(tyVar(9)))
		wantTermOk(t, false, text, more(refs(impl.MaxDepth+1, tyInt)))
		wantTermOk(t, false, text, more(endlessTy()))
	}
	all := make([]int, impl.MaxVar)
	for i := range all {
		all[i] = (i + 7) % impl.MaxVar
	}
	wantTermOk(t, true, "(let x 1 2)", func(term *impl.Term) { term.Quant = all })
	wantTermOk(t, false, "(let x 1 2)", func(term *impl.Term) { term.Quant = append(slices.Clone(all), 7) })
	wantTermOk(t, false, "(let x 1 2)", func(term *impl.Term) { term.Quant = append(slices.Clone(all), impl.MaxVar) })
	wantTermOk(t, false, "(let x 1 2)", func(term *impl.Term) { term.Quant = make([]int, 1000000) })
	wantTermOk(t, false, "(let x (let y 1 2) 2)", func(term *impl.Term) { term.Quant, term.Kids[0].Quant = all[:9], all[8:] })
}

// TestQuantOfWhatIsNoValue: there nothing is for all, whether it is in the type or not.
func TestQuantOfWhatIsNoValue(t *testing.T) {
	values := []string{"unit", "1", `"a"`, "z", "(fn x (raise 1))", "(pair 1 z)", "(pair (fn x x) (pair 1 2))", "Nil", "(Cons z Nil)", "(Half (pair 1 z))"}
	for _, text := range values {
		wantTermOk(t, true, "(fn z (let v "+text+" 1))", func(term *impl.Term) { term.Kids[0].Quant = append(term.Kids[0].Quant, 9) })
	}
	for _, text := range []string{
		"(z 1)", "(let w 1 2)", "(rec f x x 1)", "(if 1 2 3)", "(fst (pair 1 2))", "(snd (pair 1 2))", "(ref 1)", "(read (ref 1))", "(write (ref 1) 1)", "(match Yes (Yes 1) (No 2))", "(raise 1)", "(try 1 e 2)",
		"(add 1 2)", "(len \"a\")", "tick", "(get 1)", "(pair 1 (ref 1))", "(pair (ref 1) 1)", "(pair 1 (pair tick 1))", "(Cons tick Nil)", "(Cons 1 (Cons tick Nil))", "(Half (pair 1 (add 1 2)))",
	} {
		wantTermOk(t, true, "(fn z (let v "+text+" 1))", func(term *impl.Term) {})
		wantTermOk(t, false, "(fn z (let v "+text+" 1))", func(term *impl.Term) { term.Kids[0].Quant = []int{9} })
	}
	free := func(quant ...int) func(term *impl.Term) {
		return func(term *impl.Term) {
			term.Kids[0].Ty, term.Quant = tyVar(0), quant
		}
	}
	wantTermOk(t, false, "(let v (raise 1) 1)", free(0))
	wantTermOk(t, false, "(let v (raise 1) 1)", free())
	// Of another kind nothing is for all, either.
	for _, text := range wellTexts {
		datas, term := termOf(t, text)
		if term.Kind == impl.ExLet || term.Kind == impl.ExRec {
			continue
		}
		term.Quant = []int{0}
		if impl.TermOk(datas, term) {
			t.Errorf("%s: with Quant", text)
		}
	}
}

func TestVariablesThatAreNotOpen(t *testing.T) {
	own := func(v int) func(term *impl.Term) {
		return func(term *impl.Term) { term.Ty, term.Kids[0].Ty = tyOf(impl.TyFun, tyVar(v), tyVar(v)), tyVar(v) }
	}
	for _, v := range []int{0, 1, impl.MaxVar - 1, impl.MaxVar, -1} {
		wantTermOk(t, false, "(fn x x)", own(v))
		wantTermOk(t, false, "(raise 1)", func(term *impl.Term) { term.Ty = tyVar(v) })
		wantTermOk(t, false, "(let x (raise 1) 1)", func(term *impl.Term) { term.Kids[0].Ty = tyVar(v) })
		wantTermOk(t, false, "(let x Nil (raise 1))", func(term *impl.Term) { term.Ty, term.Kids[1].Ty = tyVar(v), tyVar(v) })
		wantTermOk(t, false, "(rec f x 1 (raise 1))", func(term *impl.Term) { term.Ty, term.Kids[1].Ty = tyVar(v), tyVar(v) })
		wantTermOk(t, false, "(let id (fn x x) id)", func(term *impl.Term) {
			f := tyOf(impl.TyFun, tyVar(v), tyVar(v))
			term.Ty, term.Kids[1].Ty, term.Kids[1].Inst[0] = f, f, tyVar(v)
		})
	}
	// What is open in the first Kid stays so within it.
	wantTermOk(t, true, "(let f (fn x (raise 1)) 1)", func(term *impl.Term) { term.Kids[0].Ty.Args[1], term.Kids[0].Kids[0].Ty = tyVar(0), tyVar(0) })
	wantTermOk(t, false, "(let f (fn x (raise 1)) 1)", func(term *impl.Term) { term.Kids[0].Ty.Args[1], term.Kids[0].Kids[0].Ty = tyVar(2), tyVar(2) })
	wantTermOk(t, true, "(rec f x (let y (raise 1) x) 1)", func(term *impl.Term) { term.Kids[0].Kids[0].Ty = tyVar(0) })
	wantTermOk(t, false, "(rec f x (let y (raise 1) x) 1)", func(term *impl.Term) { term.Kids[0].Kids[0].Ty = tyVar(1) })
	wantTermOk(t, true, "(let f (fn x (let y (fn z (raise 1)) x)) 1)", func(term *impl.Term) {
		inner := &term.Kids[0].Kids[0].Kids[0]
		inner.Ty.Args[1], inner.Kids[0].Ty = tyVar(0), tyVar(0)
	})
	wantTermOk(t, false, "(let f (fn x (let y (fn z z) (raise 1))) 1)", func(term *impl.Term) {
		body := &term.Kids[0].Kids[0]
		term.Kids[0].Ty.Args[1], body.Ty, body.Kids[1].Ty = tyVar(2), tyVar(2), tyVar(2)
	})
}

// TestTypesOverTheDatas: a raise has any type, but just such as are over the datas.
func TestTypesOverTheDatas(t *testing.T) {
	good := []impl.Ty{tyUnit, tyInt, tyText, tyData(0, tyInt), tyData(1, tyInt, tyData(0, tyText)), tyData(2), tyData(3, tyUnit, tyUnit), inRef(tyData(2)), refs(impl.MaxDepth, tyInt), fieldOf(impl.MaxSize), tyOf(impl.TyFun, tyData(2), tyData(0, tyData(2)))}
	bad := []impl.Ty{tyData(0), tyData(0, tyInt, tyInt), tyData(1), tyData(1, tyInt), tyData(1, tyInt, tyInt, tyInt), tyData(2, tyInt), tyData(4), tyData(impl.MaxData - 1), tyData(-1), inRef(tyData(4)), tyData(0, tyData(0)), tyOf(impl.TyFun, tyInt, tyData(2, tyInt)), refs(impl.MaxDepth+1, tyInt), fieldOf(impl.MaxSize + 1), endlessTy()}
	for _, c := range noTop() {
		bad = append(bad, c.ty)
	}
	for _, ty := range good {
		wantTermOk(t, true, "(raise 1)", func(term *impl.Term) { term.Ty = ty })
		wantTermOk(t, true, "(let x (raise 1) 1)", func(term *impl.Term) { term.Kids[0].Ty = ty })
	}
	for _, ty := range bad {
		wantTermOk(t, false, "(raise 1)", func(term *impl.Term) { term.Ty = ty })
		wantTermOk(t, false, "(let x (raise 1) 1)", func(term *impl.Term) { term.Kids[0].Ty = ty })
		wantTermOk(t, false, "(let x (raise 1) x)", func(term *impl.Term) { term.Ty, term.Kids[0].Ty, term.Kids[1].Ty = ty, ty, ty })
		wantTermOk(t, false, "(if 1 (raise 1) (raise 1))", func(term *impl.Term) { term.Ty, term.Kids[1].Ty, term.Kids[2].Ty = ty, ty, ty })
		wantTermOk(t, false, "(if 1 (raise 1) (raise 1))", func(term *impl.Term) { term.Kids[1].Ty, term.Kids[2].Ty = ty, ty })
	}
	for what, datas := range badDatas() {
		if impl.TermOk(datas, impl.Term{}) {
			t.Errorf("datas that may not be: %s", what)
		}
	}
	for what, datas := range goodDatas() {
		if !impl.TermOk(datas, impl.Term{}) {
			t.Errorf("datas that may be: %s", what)
		}
	}
}

// TestArmsOfTermsAreBoundAtTypes: the Fields of an alt's constructor are types with Inst put, also where nobody uses them.
func TestArmsOfTermsAreBoundAtTypes(t *testing.T) {
	const data = "(data wide 1 (Small '0) (Wide (pair '0 '0) (ref (ref '0))))\n"
	of := func(text string, inst impl.Ty) bool {
		s := sourceOf(t, data+text)
		term := wantWell(t, s)
		term.Inst, term.Kids[0].Ty = []impl.Ty{inst}, tyData(0, inst)
		return impl.TermOk(s.Datas, term)
	}
	const all, some = "(match (raise 1) (Small x 1) (Wide y z 2))", "(match (raise 1) (Small x 1) (_ 2))"
	most := (impl.MaxSize - 1) / 2
	for _, c := range []struct {
		text string
		inst impl.Ty
		ok   bool
	}{
		{all, tyInt, true}, {all, fieldOf(most), true}, {all, fieldOf(most + 1), false}, {some, fieldOf(most + 1), true}, {some, fieldOf(impl.MaxSize - 1), true}, {some, fieldOf(impl.MaxSize), false},
		{all, refs(impl.MaxDepth-2, tyInt), true}, {all, refs(impl.MaxDepth-1, tyInt), false}, {some, refs(impl.MaxDepth-1, tyInt), true}, {some, refs(impl.MaxDepth, tyInt), false},
	} {
		if of(c.text, c.inst) != c.ok {
			t.Errorf("%s with %s: %v", c.text, rawText(c.inst), !c.ok)
		}
	}
}

// copyTerm answers t in memory of its own, so that one field of it can be turned.
func copyTerm(t impl.Term) impl.Term {
	t.Name, t.Arg, t.Lit = slices.Clone(t.Name), slices.Clone(t.Arg), slices.Clone(t.Lit)
	t.Ty, t.Inst, t.Quant = rawSubst(t.Ty, nil), slices.Clone(t.Inst), slices.Clone(t.Quant)
	t.Kids, t.Alts = slices.Clone(t.Kids), slices.Clone(t.Alts)
	for i := range t.Kids {
		t.Kids[i] = copyTerm(t.Kids[i])
	}
	for i, alt := range t.Alts {
		t.Alts[i] = impl.Alt{Con: alt.Con, Vars: slices.Clone(alt.Vars), Body: copyTerm(alt.Body)}
	}
	return t
}

// partAt answers the part at a place, counted from the whole on; nil behind the last one.
func partAt(t *impl.Term, place *int) *impl.Term {
	if *place == 0 {
		return t
	}
	*place--
	for i := range t.Kids {
		if part := partAt(&t.Kids[i], place); part != nil {
			return part
		}
	}
	for i := range t.Alts {
		if part := partAt(&t.Alts[i].Body, place); part != nil {
			return part
		}
	}
	return nil
}

// A turn changes one field of one part.
type turn struct {
	what string
	do   func(p *impl.Term)
}

func oneTurn(list []turn, what string, value any, do func(p *impl.Term)) []turn {
	return append(list, turn{fmt.Sprint(what, " ", value), do})
}

// turnsOf are turns of all fields but Kids and Alts of a part that is like p.
func turnsOf(p impl.Term) []turn {
	var list []turn
	for kind := -1; kind <= impl.ExCall+1; kind++ {
		list = oneTurn(list, "Kind", kind, func(p *impl.Term) { p.Kind = kind })
	}
	for _, n := range []int{-1, 0, 1, 2, 3, 4, 7, p.N - 1, p.N + 1, math.MaxInt, math.MinInt} {
		list = oneTurn(list, "N", n, func(p *impl.Term) { p.N = n })
		list = oneTurn(list, "Con", n, func(p *impl.Term) { p.Con = n })
	}
	for _, word := range []string{"", "x", "y", "f", "h", "r", "id", "zz", "fn", "Nil", "Cons"} {
		list = oneTurn(list, "Name", word, func(p *impl.Term) { p.Name = []byte(word) })
		list = oneTurn(list, "Arg", word, func(p *impl.Term) { p.Arg = []byte(word) })
		list = oneTurn(list, "Lit", word, func(p *impl.Term) { p.Lit = []byte(word) })
	}
	types := append(otherInOnePlace(p.Ty), tyUnit, tyInt, tyText, tyVar(0), tyVar(1), tyVar(2), tyVar(impl.MaxVar-1), tyVar(impl.MaxVar), tyOf(impl.TyFun, tyInt, tyInt), tyOf(impl.TyPair, tyInt, tyUnit),
		inRef(tyInt), tyData(0, tyInt), tyData(0), tyData(2), tyData(4), impl.Ty{Kind: 8}, refs(impl.MaxDepth+1, tyInt), inRef(p.Ty), tyOf(impl.TyPair, p.Ty, p.Ty))
	for _, ty := range types {
		list = oneTurn(list, "Ty", ty, func(p *impl.Term) { p.Ty = ty })
		list = oneTurn(list, "Inst and", ty, func(p *impl.Term) { p.Inst = append(p.Inst, ty) })
		for i := range p.Inst {
			list = oneTurn(list, fmt.Sprint("Inst ", i), ty, func(p *impl.Term) { p.Inst[i] = ty })
		}
	}
	for i := range p.Inst {
		list = oneTurn(list, "Inst without", i, func(p *impl.Term) { p.Inst = slices.Delete(p.Inst, i, i+1) })
	}
	list = oneTurn(list, "Inst", "turned round", func(p *impl.Term) { slices.Reverse(p.Inst) })
	return append(list, quantTurns(p)...)
}

func quantTurns(p impl.Term) []turn {
	var list []turn
	for _, v := range []int{-1, 0, 1, 2, 3, 9, impl.MaxVar - 1, impl.MaxVar, math.MinInt} {
		list = oneTurn(list, "Quant and", v, func(p *impl.Term) { p.Quant = append(p.Quant, v) })
		for i := range p.Quant {
			list = oneTurn(list, fmt.Sprint("Quant ", i), v, func(p *impl.Term) { p.Quant[i] = v })
		}
	}
	for i := range p.Quant {
		list = oneTurn(list, "Quant without", i, func(p *impl.Term) { p.Quant = slices.Delete(p.Quant, i, i+1) })
	}
	return oneTurn(list, "Quant", "turned round", func(p *impl.Term) { slices.Reverse(p.Quant) })
}

// treeTurns are turns of Kids and Alts: one too few, one too many, another one.
func treeTurns(p impl.Term) []turn {
	var list []turn
	others := []impl.Term{{Kind: impl.ExInt, Ty: tyInt}, {}, {Kind: impl.ExVar, Name: []byte("x"), Ty: tyInt}, {Kind: impl.ExCon, Inst: []impl.Ty{tyInt}, Ty: tyData(0, tyInt)}}
	for k, other := range others {
		list = oneTurn(list, "Kids and", k, func(p *impl.Term) { p.Kids = append(p.Kids, other) })
		list = oneTurn(list, "Kids ahead", k, func(p *impl.Term) { p.Kids = slices.Insert(p.Kids, 0, other) })
		for i := range p.Kids {
			list = oneTurn(list, fmt.Sprint("Kid ", i), k, func(p *impl.Term) { p.Kids[i] = other })
		}
		for i := range p.Alts {
			list = oneTurn(list, fmt.Sprint("body ", i), k, func(p *impl.Term) { p.Alts[i].Body = other })
		}
		for con := -2; con < 4; con++ {
			list = oneTurn(list, fmt.Sprint("alt of ", con), k, func(p *impl.Term) { p.Alts = append(p.Alts, impl.Alt{Con: con, Body: other}) })
		}
	}
	list = oneTurn(list, "Kids", "turned round", func(p *impl.Term) { slices.Reverse(p.Kids) })
	list = oneTurn(list, "Alts", "turned round", func(p *impl.Term) { slices.Reverse(p.Alts) })
	for i := range p.Kids {
		list = oneTurn(list, "Kids without", i, func(p *impl.Term) { p.Kids = slices.Delete(p.Kids, i, i+1) })
	}
	for i, alt := range p.Alts {
		list = oneTurn(list, "Alts without", i, func(p *impl.Term) { p.Alts = slices.Delete(p.Alts, i, i+1) })
		list = oneTurn(list, "Alts twice", i, func(p *impl.Term) { p.Alts = slices.Insert(p.Alts, 0, p.Alts[i]) })
		for con := -2; con < 4; con++ {
			list = oneTurn(list, fmt.Sprint("alt ", i), con, func(p *impl.Term) { p.Alts[i].Con = con })
		}
		for _, word := range []string{"x", "y", "zz", "fn", "A"} {
			list = oneTurn(list, fmt.Sprint("Vars and ", i), word, func(p *impl.Term) { p.Alts[i].Vars = append(p.Alts[i].Vars, []byte(word)) })
			for k := range alt.Vars {
				list = oneTurn(list, fmt.Sprint("Vars ", i, k), word, func(p *impl.Term) { p.Alts[i].Vars[k] = []byte(word) })
			}
		}
		for k := range alt.Vars {
			list = oneTurn(list, fmt.Sprint("Vars ", i, " without"), k, func(p *impl.Term) { p.Alts[i].Vars = slices.Delete(p.Alts[i].Vars, k, k+1) })
		}
	}
	return list
}

// TestTermsWithOneFieldTurned holds TermOk against the document's list, at each turn of each part of what Infer tells.
func TestTermsWithOneFieldTurned(t *testing.T) {
	taken, refused := 0, 0
	for _, text := range wellTexts {
		datas, term := termOf(t, text)
		for place := 0; ; place++ {
			at := place
			p := partAt(&term, &at)
			if p == nil {
				break
			}
			for _, turn := range slices.Concat(turnsOf(*p), treeTurns(*p)) {
				turned := copyTerm(term)
				at := place
				turn.do(partAt(&turned, &at))
				ok := rawTermOk(datas, turned)
				if impl.TermOk(datas, turned) != ok {
					t.Fatalf("%s, part %d, %s: TermOk is %v: %v", text, place, turn.what, !ok, turned)
				}
				if ok {
					taken++
				} else {
					refused++
				}
			}
		}
	}
	if taken < 2000 || refused < 30000 {
		t.Errorf("the test's own turns: %d taken, %d refused", taken, refused)
	}
}

// TestTurnsThatAreRefused: turns whose answer is plain, without the list.
func TestTurnsThatAreRefused(t *testing.T) {
	const text = "(rec f l (match l (Nil 0) (Cons h r (add h (f r)))) (let p (pair Nil (fn x x)) (f (Cons ((snd p) 1) (fst p)))))"
	match := func(term *impl.Term) *impl.Term { return &term.Kids[0] }
	let := func(term *impl.Term) *impl.Term { return &term.Kids[1] }
	con := func(term *impl.Term) *impl.Term { return &term.Kids[1].Kids[1].Kids[1] }
	p := func(term *impl.Term) *impl.Term { return &con(term).Kids[1].Kids[0] }
	wantTermOk(t, true, text, func(term *impl.Term) {
		if match(term).Kind != impl.ExMatch || let(term).Kind != impl.ExLet || con(term).Kind != impl.ExCon || p(term).Kind != impl.ExVar || len(p(term).Inst) != 2 {
			t.Fatal("the test's own text:", sayTerm(*term))
		}
	})
	for i, turn := range []func(term *impl.Term){
		func(term *impl.Term) { term.Kind = impl.ExLet },
		func(term *impl.Term) { term.N = 1 },
		func(term *impl.Term) { term.Con = 1 },
		func(term *impl.Term) { term.Name = []byte("g") },
		func(term *impl.Term) { term.Arg = []byte("g") },
		func(term *impl.Term) { term.Arg = []byte("f") },
		func(term *impl.Term) { term.Lit = []byte("f") },
		func(term *impl.Term) { term.Ty = tyUnit },
		func(term *impl.Term) { term.Inst = nil },
		func(term *impl.Term) { term.Inst = append(term.Inst, term.Inst[0]) },
		func(term *impl.Term) { term.Inst[0] = tyOf(impl.TyFun, tyData(0, tyInt), tyUnit) },
		func(term *impl.Term) { term.Inst[0] = tyOf(impl.TyFun, tyData(0, tyUnit), tyInt) },
		func(term *impl.Term) { term.Inst[0] = tyOf(impl.TyPair, tyData(0, tyInt), tyInt) },
		func(term *impl.Term) { term.Inst[0] = tyInt },
		func(term *impl.Term) { term.Quant = []int{0} },
		func(term *impl.Term) { match(term).N = 1 },
		func(term *impl.Term) { match(term).N = -1 },
		func(term *impl.Term) { match(term).N = 9 },
		func(term *impl.Term) { match(term).Con = 1 },
		func(term *impl.Term) { match(term).Name = []byte("x") },
		func(term *impl.Term) { match(term).Inst = nil },
		func(term *impl.Term) { match(term).Inst[0] = tyUnit },
		func(term *impl.Term) { match(term).Inst = append(match(term).Inst, tyInt) },
		func(term *impl.Term) { match(term).Alts[0].Con = -1 },
		func(term *impl.Term) { match(term).Alts[0].Con = 2 },
		func(term *impl.Term) { match(term).Alts[0].Con = 1 },
		func(term *impl.Term) { match(term).Alts = match(term).Alts[:1] },
		func(term *impl.Term) { match(term).Alts = nil },
		func(term *impl.Term) { match(term).Alts[1].Vars = match(term).Alts[1].Vars[:1] },
		func(term *impl.Term) { match(term).Alts[1].Vars[0] = []byte("r") },
		func(term *impl.Term) { match(term).Alts[1].Vars[0] = []byte("k") },
		func(term *impl.Term) { match(term).Alts[1].Body.Ty = tyUnit },
		func(term *impl.Term) { match(term).Alts[1].Body.Kids[0].Ty = tyText },
		func(term *impl.Term) { match(term).Alts[1].Body.Kids[1].Kids[0].Inst = []impl.Ty{tyInt} },
		func(term *impl.Term) { let(term).Quant = let(term).Quant[:1] },
		func(term *impl.Term) { let(term).Quant = nil },
		func(term *impl.Term) { let(term).Quant[1] = let(term).Quant[0] },
		func(term *impl.Term) { slices.Reverse(let(term).Quant) },
		func(term *impl.Term) { let(term).Quant = append(let(term).Quant, 7) },
		func(term *impl.Term) { let(term).Inst = []impl.Ty{tyInt} },
		func(term *impl.Term) { let(term).Ty = tyUnit },
		func(term *impl.Term) { let(term).Kids[0].Ty = tyUnit },
		func(term *impl.Term) { let(term).Alts = []impl.Alt{{Con: -1}} },
		func(term *impl.Term) { con(term).N = 1 },
		func(term *impl.Term) { con(term).Con = 0 },
		func(term *impl.Term) { con(term).Con = 2 },
		func(term *impl.Term) { con(term).Con = -1 },
		func(term *impl.Term) { con(term).Name = []byte("Cons") },
		func(term *impl.Term) { con(term).Inst = nil },
		func(term *impl.Term) { con(term).Inst[0] = tyUnit },
		func(term *impl.Term) { con(term).Inst = append(con(term).Inst, tyInt) },
		func(term *impl.Term) { con(term).Kids = con(term).Kids[:1] },
		func(term *impl.Term) { slices.Reverse(con(term).Kids) },
		func(term *impl.Term) { con(term).Quant = []int{7} },
		func(term *impl.Term) { p(term).Inst = nil },
		func(term *impl.Term) { p(term).Inst = p(term).Inst[:1] },
		func(term *impl.Term) { p(term).Inst = append(p(term).Inst, tyInt) },
		func(term *impl.Term) { p(term).Inst[0] = tyText },
		func(term *impl.Term) { p(term).Inst[1] = tyText },
		func(term *impl.Term) { p(term).Ty = tyText },
		func(term *impl.Term) { p(term).Name = []byte("f") },
		func(term *impl.Term) { p(term).N = 1 },
		func(term *impl.Term) { p(term).Kids = []impl.Term{{}} },
	} {
		datas, term := termOf(t, text)
		turn(&term)
		if impl.TermOk(datas, term) {
			t.Errorf("turn %d: TermOk: %s", i, sayTerm(term))
		}
	}
}

// TestDatasWithAsManyArgs: a data is not another one that has as many Vars.
func TestDatasWithAsManyArgs(t *testing.T) {
	both, ghost := tyData(1, tyInt, tyUnit), tyData(3, tyInt, tyUnit)
	for _, c := range []struct {
		ty impl.Ty
		ok bool
	}{{ghost, true}, {both, false}} {
		wantTermOk(t, c.ok, "(Half 1)", func(term *impl.Term) { term.Ty = c.ty })
		wantTermOk(t, c.ok, "(raise 1)", func(term *impl.Term) {
			match := impl.Term{Kind: impl.ExMatch, N: 3, Ty: tyInt, Inst: c.ty.Args, Kids: []impl.Term{*term}, Alts: []impl.Alt{{Body: intTerm}, {Con: -1, Body: intTerm}}}
			match.Kids[0].Ty = c.ty
			*term = match
		})
		wantTermOk(t, c.ok, "(let x Ghost x)", func(term *impl.Term) {
			term.Quant, term.Kids[0].Inst, term.Kids[0].Ty, term.Kids[1].Inst, term.Kids[1].Ty, term.Ty = nil, ghost.Args, ghost, nil, c.ty, c.ty
		})
	}
}

func opTerm(kids ...impl.Term) impl.Term {
	return impl.Term{Kind: impl.ExOp, N: impl.OpAdd, Ty: tyInt, Kids: kids}
}

var intTerm = impl.Term{Kind: impl.ExInt, N: 1, Ty: tyInt}

// TestTermsHoldTheLimits: those of sources.
func TestTermsHoldTheLimits(t *testing.T) {
	wrap := func(term impl.Term) impl.Term {
		return impl.Term{Kind: impl.ExRaise, Ty: tyInt, Kids: []impl.Term{term}}
	}
	deep := intTerm
	for range impl.MaxDeep - 1 {
		deep = wrap(deep)
	}
	if !impl.TermOk(nil, deep) || impl.TermOk(nil, wrap(deep)) {
		t.Error("the deepest term")
	}
	var tree func(parts int) impl.Term
	tree = func(parts int) impl.Term {
		switch parts {
		case 1:
			return intTerm
		case 2:
			return wrap(intTerm)
		}
		return opTerm(tree((parts-1)/2), tree(parts-1-(parts-1)/2))
	}
	for parts := 1; parts <= impl.MaxNodes+20; parts++ {
		if impl.TermOk(nil, tree(parts)) != (parts <= impl.MaxNodes) {
			t.Errorf("%d parts", parts)
		}
	}
	lits := func(size int) impl.Term {
		var cat func(leaves int) impl.Term
		cat = func(leaves int) impl.Term {
			if leaves > 1 {
				return impl.Term{Kind: impl.ExOp, N: impl.OpCat, Ty: tyText, Kids: []impl.Term{cat(leaves / 2), cat(leaves - leaves/2)}}
			}
			return impl.Term{Kind: impl.ExText, Ty: tyText}
		}
		all := cat(150)
		missing := size - len(rawPrint(bodyOnly(rawStrip(nil, all))))
		for place := 0; missing > 0; place++ {
			at := place
			if part := partAt(&all, &at); part.Kind == impl.ExText {
				part.Lit = []byte(strings.Repeat("a", min(missing, impl.MaxLit)))
				missing -= len(part.Lit)
			}
		}
		return all
	}
	for _, size := range []int{impl.MaxProgram - 1, impl.MaxProgram, impl.MaxProgram + 1, impl.MaxProgram + 2} {
		if impl.TermOk(nil, lits(size)) != (size <= impl.MaxProgram) {
			t.Errorf("a text of %d bytes", size)
		}
	}
}

func TestTermsWithoutAnEnd(t *testing.T) {
	kids := make([]impl.Term, 1)
	kids[0] = impl.Term{Kind: impl.ExRef, Ty: tyInt, Kids: kids}
	two := make([]impl.Term, 2)
	two[0], two[1] = opTerm(two...), opTerm(two...)
	two[0].Kids, two[1].Kids = two, two
	alts := []impl.Alt{{Con: -1}}
	alts[0].Body = impl.Term{Kind: impl.ExMatch, Kids: []impl.Term{intTerm}, Alts: alts}
	ring := endlessTy()
	wide := intTerm
	for range impl.MaxDeep {
		wide = opTerm(wide, wide)
	}
	datas := behindData(t, "1").Datas
	for i, term := range []impl.Term{
		kids[0], two[0], alts[0].Body, wide, opTerm(intTerm, two[0]), {Ty: ring}, {Kind: impl.ExRaise, Ty: ring, Kids: []impl.Term{intTerm}},
		{Kind: impl.ExIf, Ty: tyInt, Kids: []impl.Term{intTerm, {Kind: impl.ExRaise, Ty: ring, Kids: []impl.Term{intTerm}}, {Kind: impl.ExRaise, Ty: ring, Kids: []impl.Term{intTerm}}}},
		{Kind: impl.ExIf, Ty: ring, Kids: []impl.Term{intTerm, {Kind: impl.ExRaise, Ty: ring, Kids: []impl.Term{intTerm}}, {Kind: impl.ExRaise, Ty: ring, Kids: []impl.Term{intTerm}}}},
		{Kind: impl.ExCon, Ty: tyData(0, ring), Inst: []impl.Ty{ring}}, {Kind: impl.ExCon, Ty: tyData(0, tyInt), Inst: []impl.Ty{ring}},
		{Kind: impl.ExOp, Ty: tyInt, Kids: make([]impl.Term, 1000000)}, {Kind: impl.ExMatch, Ty: tyInt, Kids: []impl.Term{intTerm}, Alts: make([]impl.Alt, 1000000)},
		{Kind: impl.ExInt, Ty: tyInt, Inst: make([]impl.Ty, 1000000)}, {Kind: impl.ExInt, Ty: tyInt, Quant: make([]int, 1000000)}, {Kind: impl.ExVar, Ty: tyInt, Name: make([]byte, 1000000)},
		{Kind: math.MaxInt}, {Kind: math.MinInt}, {Kind: impl.ExCon, N: math.MaxInt}, {Kind: impl.ExCon, N: math.MinInt}, {Kind: impl.ExCon, Con: math.MaxInt}, {Kind: impl.ExCon, Con: math.MinInt},
		{Kind: impl.ExMatch, N: math.MaxInt, Kids: []impl.Term{intTerm}, Alts: []impl.Alt{{}}}, {Kind: impl.ExMatch, Kids: []impl.Term{intTerm}, Alts: []impl.Alt{{Con: math.MinInt}}}, {Kind: impl.ExVar, Name: []byte("x")},
	} {
		if impl.TermOk(datas, term) || impl.TermOk(nil, term) {
			t.Errorf("term %d: TermOk", i)
		}
	}
}

// What fills the room behind the lists of terms: none of it may be.
var (
	spareTerm = impl.Term{Kind: 77, N: spareWord}
	spareAlt  = impl.Alt{Con: spareWord}
)

// roomyTerm answers t in memory of its own, with filled room behind each of its lists.
func roomyTerm(t impl.Term) impl.Term {
	t.Name, t.Arg, t.Lit = roomy(string(t.Name)), roomy(string(t.Arg)), roomy(string(t.Lit))
	t.Ty, t.Inst, t.Quant = roomyTy(t.Ty), roomyTys(t.Inst), withSpare(t.Quant, spareWord)
	t.Kids, t.Alts = withSpare(t.Kids, spareTerm), withSpare(t.Alts, spareAlt)
	for i := range t.Kids {
		t.Kids[i] = roomyTerm(t.Kids[i])
	}
	for i, alt := range t.Alts {
		vars := withSpare(alt.Vars, spareText)
		for k := range vars {
			vars[k] = roomy(string(vars[k]))
		}
		t.Alts[i] = impl.Alt{Con: alt.Con, Vars: vars, Body: roomyTerm(alt.Body)}
	}
	return t
}

func (r *roll) term(t impl.Term) {
	r.text(t.Name)
	r.text(t.Arg)
	r.text(t.Lit)
	r.ty(t.Ty)
	r.ty(impl.Ty{Args: t.Inst})
	enrol(r, t.Quant, func(v int) bool { return v == spareWord })
	enrol(r, t.Kids, func(kid impl.Term) bool { return sameTerm(kid, spareTerm) })
	enrol(r, t.Alts, func(alt impl.Alt) bool { return sameAlt(alt, spareAlt) })
	for _, alt := range t.Alts {
		enrol(r, alt.Vars, func(v []byte) bool { return sameText(v, spareText) })
		for _, v := range alt.Vars {
			r.text(v)
		}
	}
	for _, part := range termParts(t) {
		r.term(part)
	}
}

// spoilTerm writes over all that can be reached by t.
func spoilTerm(t impl.Term) {
	for _, list := range [][]byte{t.Name, t.Arg, t.Lit} {
		scribble(list)
	}
	scribbleTy(t.Ty)
	scribbleTy(impl.Ty{Args: t.Inst})
	for _, part := range termParts(t) {
		spoilTerm(part)
	}
	for i, alt := range t.Alts {
		for _, v := range alt.Vars {
			scribble(v)
		}
		t.Alts[i] = spareAlt
	}
	for i := range t.Kids {
		t.Kids[i] = spareTerm
	}
	for i := range t.Quant {
		t.Quant[i] = spareWord
	}
}

// typeSources have a type, a clash, or something else that is wrong.
func typeSources(t *testing.T) []impl.Source {
	list := memorySources()
	for _, text := range append(slices.Clone(wellTexts), "(add 1 unit)", "(fn x (x x))", "nobody", "(match Nil (_ 1))", "(Some 1)", "(let id (fn x x) (id id))") {
		list = append(list, behindData(t, text))
	}
	return list
}

func TestInferHasMemoryOfItsOwn(t *testing.T) {
	codes := map[int]int{}
	for i, s := range typeSources(t) {
		plain, plainCode := impl.Infer(s)
		codes[plainCode]++
		arg := roomySource(s)
		got, code := impl.Infer(arg)
		if code != plainCode || !sameTerm(got, plain) || impl.NamesOk(arg) != impl.NamesOk(s) || impl.ArmsOk(arg) != impl.ArmsOk(s) {
			t.Errorf("source %d: what lies behind a list was read", i)
		}
		all := newRoll()
		all.source(arg)
		if all.spoilt || !sameSource(arg, s) {
			t.Errorf("source %d: the argument was changed", i)
		}
		all.term(got)
		all.term(plain)
		if all.shared {
			t.Errorf("source %d: lists that share memory: %s", i, sayTerm(got))
		}
		spoil(arg.Body)
		if !sameTerm(got, plain) {
			t.Errorf("source %d: the answer changes with the source", i)
		}
		spoilTerm(got)
		if again, _ := impl.Infer(s); !sameTerm(again, plain) {
			t.Errorf("source %d: an answer was kept", i)
		}
	}
	for _, code := range []int{impl.TypeWell, impl.TypeForm, impl.TypeName, impl.TypeArms, impl.TypeClash} {
		if codes[code] == 0 {
			t.Error("the test's own sources:", codes)
		}
	}
}

func TestAskingChangesNoTerm(t *testing.T) {
	for _, s := range typeSources(t) {
		term, code := impl.Infer(s)
		if code != impl.TypeWell {
			continue
		}
		for _, turn := range []func(p *impl.Term){
			func(p *impl.Term) {}, func(p *impl.Term) { p.Ty = tyData(5) }, func(p *impl.Term) { p.Quant = []int{4, 2, 3} }, func(p *impl.Term) { p.Quant = []int{3, 3} },
			func(p *impl.Term) { p.Inst = []impl.Ty{tyText, tyVar(0)} }, func(p *impl.Term) { p.Kids = append(p.Kids, intTerm) },
		} {
			turned := copyTerm(term)
			turn(&turned)
			arg, datas := roomyTerm(turned), roomySource(impl.Source{Datas: s.Datas}).Datas
			if impl.TermOk(datas, arg) != impl.TermOk(s.Datas, turned) {
				t.Errorf("%s: what lies behind a list was read", sayTerm(term))
			}
			all := newRoll()
			all.term(arg)
			all.source(impl.Source{Datas: datas})
			if all.spoilt || !sameTerm(arg, turned) || !slices.EqualFunc(datas, s.Datas, sameData) {
				t.Errorf("%s: an argument was changed", sayTerm(term))
			}
		}
	}
}

// TestTermsWhosePartsShare: lists that stand in several places of a source or of a term are asked as if each had its own.
func TestTermsWhosePartsShare(t *testing.T) {
	id := exNamed(impl.ExFn, "x", exVar("x"))
	pair := exOf(impl.ExPair, id, id)
	s := bodyOnly(exNamed(impl.ExLet, "p", pair, exOf(impl.ExPair, pair, exVar("p"))))
	term := wantWell(t, s)
	all := newRoll()
	all.term(term)
	if all.shared {
		t.Error("the parts of the answer share as those of the source")
	}
	f := tyOf(impl.TyFun, tyInt, tyInt)
	lambda := impl.Term{Kind: impl.ExFn, Name: []byte("x"), Ty: f, Kids: []impl.Term{{Kind: impl.ExVar, Name: []byte("x"), Ty: tyInt}}}
	if !impl.TermOk(nil, impl.Term{Kind: impl.ExPair, Ty: tyOf(impl.TyPair, f, f), Kids: []impl.Term{lambda, lambda}}) {
		t.Error("a term whose parts share")
	}
}

func TestTypedByManyAtOnce(t *testing.T) {
	sources := typeSources(t)
	var plain []string
	for _, s := range sources {
		term, code := impl.Infer(s)
		plain = append(plain, fmt.Sprint(code, sayTerm(term)))
	}
	var all sync.WaitGroup
	wrong := make([]int, 8)
	for worker := range wrong {
		all.Go(func() {
			for i, s := range sources {
				term, code := impl.Infer(s)
				if fmt.Sprint(code, sayTerm(term)) != plain[i] || code == impl.TypeWell && !impl.TermOk(s.Datas, term) {
					wrong[worker]++
				}
			}
		})
	}
	all.Wait()
	if !filled(wrong, 0) {
		t.Error("wrong answers:", wrong)
	}
}
