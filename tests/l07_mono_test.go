package tests

import (
	"fmt"
	"math"
	"slices"
	"strings"
	"sync"
	"testing"

	"loop.example/g00293/impl"
)

func lowParts(e impl.Low) []impl.Low {
	parts := slices.Clone(e.Kids)
	for _, alt := range e.Alts {
		parts = append(parts, alt.Body)
	}
	return parts
}

func rawLowNodes(e impl.Low) int {
	count := 1
	for _, part := range lowParts(e) {
		count += rawLowNodes(part)
	}
	return count
}

func rawLowDeep(e impl.Low) int {
	deep := 0
	for _, part := range lowParts(e) {
		deep = max(deep, rawLowDeep(part))
	}
	return deep + 1
}

func sameLow(a impl.Low, b impl.Low) bool {
	return a.Kind == b.Kind && a.N == b.N && a.M == b.M && a.Con == b.Con && sameText(a.Lit, b.Lit) && rawSame(a.Ty, b.Ty) && rawSame(a.Fun, b.Fun) &&
		slices.EqualFunc(a.Kids, b.Kids, sameLow) && slices.EqualFunc(a.Alts, b.Alts, sameLowAlt)
}

func sameLowAlt(a impl.LowAlt, b impl.LowAlt) bool {
	return a.Con == b.Con && slices.Equal(a.Vars, b.Vars) && sameLow(a.Body, b.Body)
}

func sameLayout(a impl.Layout, b impl.Layout) bool {
	return slices.EqualFunc(a.Cons, b.Cons, func(c, d []impl.Ty) bool { return slices.EqualFunc(c, d, rawSame) })
}

func sameWhole(a impl.Whole, b impl.Whole) bool {
	return slices.EqualFunc(a.Layouts, b.Layouts, sameLayout) && sameLow(a.Body, b.Body)
}

func isZeroWhole(w impl.Whole) bool {
	return sameWhole(w, impl.Whole{})
}

// sayLow says all fields that a part's kind names: behind a word the numbers that it binds (of ExRec Fun in <>) or the layout,
// then the Kids and the alts, and behind each part a colon and its type.
func sayLow(e impl.Low) string {
	head := []string{rawWords[e.Kind]}
	switch e.Kind {
	case impl.ExUnit:
		return "unit:" + rawText(e.Ty)
	case impl.ExInt:
		return fmt.Sprint(e.N, ":", rawText(e.Ty))
	case impl.ExText:
		return fmt.Sprintf("%q:%s", e.Lit, rawText(e.Ty))
	case impl.ExVar:
		return fmt.Sprintf("#%d:%s", e.N, rawText(e.Ty))
	case impl.ExFn, impl.ExLet, impl.ExTry:
		head = append(head, fmt.Sprint(e.N))
	case impl.ExRec:
		head = append(head, fmt.Sprint(e.N), fmt.Sprintf("%d<%s>", e.M, rawText(e.Fun)))
	case impl.ExApp:
		head[0] = "app"
	case impl.ExCon:
		head[0] = fmt.Sprintf("con %d.%d", e.N, e.Con)
	case impl.ExMatch:
		head = append(head, fmt.Sprint(e.N))
	case impl.ExOp:
		head[0] = rawOps[e.N]
	case impl.ExCall:
		head[0] = rawCalls[e.N]
	}
	for _, kid := range e.Kids {
		head = append(head, sayLow(kid))
	}
	for _, alt := range e.Alts {
		items := []string{fmt.Sprint(alt.Con)}
		for _, v := range alt.Vars {
			items = append(items, fmt.Sprint(v))
		}
		head = append(head, bracket(append(items, sayLow(alt.Body))...))
	}
	return bracket(head...) + ":" + rawText(e.Ty)
}

// sayLayouts says the Fields of each constructor, `-` for none; the constructors in {} for each layout.
func sayLayouts(list []impl.Layout) string {
	var texts []string
	for _, layout := range list {
		var cons []string
		for _, fields := range layout.Cons {
			items := []string{}
			for _, field := range fields {
				items = append(items, rawText(field))
			}
			if len(items) == 0 {
				items = []string{"-"}
			}
			cons = append(cons, strings.Join(items, " "))
		}
		texts = append(texts, "{"+strings.Join(cons, " | ")+"}")
	}
	return strings.Join(texts, " ")
}

// saysNoMore says whether all fields of e that sayLow leaves out are zero.
func saysNoMore(e impl.Low) bool {
	named := func(kinds ...int) bool { return slices.Contains(kinds, e.Kind) }
	ok := (e.N == 0 || named(impl.ExInt, impl.ExVar, impl.ExFn, impl.ExLet, impl.ExRec, impl.ExCon, impl.ExMatch, impl.ExTry, impl.ExOp, impl.ExCall)) &&
		(e.M == 0 && isZeroTy(e.Fun) || named(impl.ExRec)) && (e.Con == 0 || named(impl.ExCon)) && (len(e.Lit) == 0 || named(impl.ExText)) &&
		(len(e.Alts) > 0) == named(impl.ExMatch)
	return ok && !slices.ContainsFunc(lowParts(e), func(part impl.Low) bool { return !saysNoMore(part) })
}

// rawFreeOf answers the numbers of e that are not bound where they stand.
func rawFreeOf(e impl.Low, bound []int) []int {
	var free []int
	if e.Kind == impl.ExVar && !slices.Contains(bound, e.N) {
		free = append(free, e.N)
	}
	for i, kid := range e.Kids {
		inside := slices.Clone(bound)
		switch {
		case e.Kind == impl.ExRec && i == 0:
			inside = append(inside, e.N, e.M)
		case e.Kind == impl.ExFn, e.Kind == impl.ExRec, i == 1 && (e.Kind == impl.ExLet || e.Kind == impl.ExTry):
			inside = append(inside, e.N)
		}
		free = append(free, rawFreeOf(kid, inside)...)
	}
	for _, alt := range e.Alts {
		free = append(free, rawFreeOf(alt.Body, slices.Concat(bound, alt.Vars))...)
	}
	return free
}

// A saying holds types over datas against low types over layouts; told are those that were, or are being, held.
type saying struct {
	datas   []impl.Data
	layouts []impl.Layout
	told    map[string]bool
}

// same: a layout says the same as a data with its Args, if all Fields of all constructors do.
func (s *saying) same(ty impl.Ty, low impl.Ty) bool {
	if ty.Kind != low.Kind || ty.Kind != impl.TyData && (ty.N != low.N || len(ty.Args) != len(low.Args)) {
		return false
	}
	if ty.Kind != impl.TyData {
		for i := range ty.Args {
			if !s.same(ty.Args[i], low.Args[i]) {
				return false
			}
		}
		return true
	}
	key := rawText(ty) + rawText(low)
	if s.told[key] {
		return true
	}
	s.told[key] = true
	cons := s.datas[ty.N].Cons
	if len(low.Args) > 0 || low.N >= len(s.layouts) || len(s.layouts[low.N].Cons) != len(cons) {
		return false
	}
	for i, fields := range s.layouts[low.N].Cons {
		if len(fields) != len(cons[i].Fields) {
			return false
		}
		for k, field := range fields {
			if !s.same(rawSubst(cons[i].Fields[k], ty.Args), field) {
				return false
			}
		}
	}
	return true
}

// wantPromised looks at what promise 7 says of a whole program that came of a term.
func wantPromised(t *testing.T, datas []impl.Data, term impl.Term, w impl.Whole) {
	t.Helper()
	if !impl.WholeOk(w) || !saysNoMore(w.Body) {
		t.Errorf("%s: not WholeOk: %s %s", sayTerm(term), sayLayouts(w.Layouts), sayLow(w.Body))
	}
	if free := append(rawFreeOf(w.Body, nil), impl.FreeOf(w.Body)...); len(free) > 0 {
		t.Errorf("%s: %v are free: %s", sayTerm(term), free, sayLow(w.Body))
	}
	if s := (&saying{datas, w.Layouts, map[string]bool{}}); !s.same(term.Ty, w.Body.Ty) {
		t.Errorf("%s: another type: %s %s", sayTerm(term), sayLayouts(w.Layouts), sayLow(w.Body))
	}
	if count := impl.LowNodes(w.Body); count != rawLowNodes(w.Body) {
		t.Errorf("%s: %d parts: %s", sayTerm(term), count, sayLow(w.Body))
	}
}

// wantMonoWell looks for a whole program as the promise says, and answers it.
func wantMonoWell(t *testing.T, datas []impl.Data, term impl.Term) impl.Whole {
	t.Helper()
	w, code := impl.Mono(datas, term)
	if code != impl.MonoWell {
		t.Errorf("%.300s: %d", sayTerm(term), code)
		return w
	}
	wantPromised(t, datas, term, w)
	return w
}

// wantMono looks for the whole program of a text.
func wantMono(t *testing.T, text string, layouts string, body string) {
	t.Helper()
	s := sourceOf(t, text)
	w := wantMonoWell(t, s.Datas, wantWell(t, s))
	if sayLayouts(w.Layouts) != layouts || sayLow(w.Body) != body {
		t.Errorf("%s: %s %s", text, sayLayouts(w.Layouts), sayLow(w.Body))
	}
}

// wantOne looks for the whole program of a body behind someData.
func wantOne(t *testing.T, body string, layouts string, low string) {
	t.Helper()
	wantMono(t, someData+body, layouts, low)
}

// wantNoMono looks for a code that refuses.
func wantNoMono(t *testing.T, what string, code int, datas []impl.Data, term impl.Term) {
	t.Helper()
	if w, got := impl.Mono(datas, term); got != code || !isZeroWhole(w) {
		t.Errorf("%.300s: %d, not %d: %.300s", what, got, code, sayLow(w.Body))
	}
}

// wantLarge looks for MonoLarge of a text that has a type.
func wantLarge(t *testing.T, text string) {
	t.Helper()
	s := sourceOf(t, text)
	wantNoMono(t, text, impl.MonoLarge, s.Datas, wantWell(t, s))
}

func TestLimitsAndCodesOfMono(t *testing.T) {
	if got := []int{impl.MaxLow, impl.MonoWell, impl.MonoForm, impl.MonoLarge}; !slices.Equal(got, []int{1500, 0, 1, 2}) {
		t.Error("limit and codes:", got)
	}
}

func TestTheWholeProgramOfEveryKind(t *testing.T) {
	for _, c := range [][3]string{
		{"unit", "", "unit:unit"},
		{"-7", "", "-7:int"},
		{"0", "", "0:int"},
		{`"a b"`, "", `"a b":text`},
		{`""`, "", `"":text`},
		{"(fn x x)", "", "(fn 0 #0:unit):(fun unit unit)"},
		{"(fn x (fn y x))", "", "(fn 0 (fn 1 #0:unit):(fun unit unit)):(fun unit (fun unit unit))"},
		{"((fn x (pair x 1)) unit)", "", "(app (fn 0 (pair #0:unit 1:int):(pair unit int)):(fun unit (pair unit int)) unit:unit):(pair unit int)"},
		{"(let x 1 (pair x x))", "", "(let 0 1:int (pair #0:int #0:int):(pair int int)):(pair int int)"},
		{"(rec f x (if x (f (sub x 1)) x) (f 3))", "", "(rec 0 1<(fun int int)> (if #1:int (app #0:(fun int int) (sub #1:int 1:int):int):int #1:int):int (app #0:(fun int int) 3:int):int):int"},
		{`(if 1 "a" "b")`, "", `(if 1:int "a":text "b":text):text`},
		{"(pair 1 unit)", "", "(pair 1:int unit:unit):(pair int unit)"},
		{"(fst (pair 1 unit))", "", "(fst (pair 1:int unit:unit):(pair int unit)):int"},
		{"(snd (pair 1 unit))", "", "(snd (pair 1:int unit:unit):(pair int unit)):unit"},
		{`(ref "a")`, "", `(ref "a":text):(ref text)`},
		{"(read (ref 1))", "", "(read (ref 1:int):(ref int)):int"},
		{"(write (ref 1) 2)", "", "(write (ref 1:int):(ref int) 2:int):unit"},
		{"Nil", "{- | unit (data 0)}", "(con 0.0):(data 0)"},
		{"(Cons 1 Nil)", "{- | int (data 0)}", "(con 0.1 1:int (con 0.0):(data 0)):(data 0)"},
		{`(Both 1 "a")`, "{int text}", `(con 0.0 1:int "a":text):(data 0)`},
		{"Yes", "{- | -}", "(con 0.1):(data 0)"},
		{"(Half 1)", "{- | int | int text}", "(con 0.1 1:int):(data 0)"},
		{`(Body 1 "a")`, "{- | unit | int text}", `(con 0.2 1:int "a":text):(data 0)`},
		{"(match (Cons 1 Nil) (Cons x y x) (Nil 0))", "{- | int (data 0)}", "(match 0 (con 0.1 1:int (con 0.0):(data 0)):(data 0) (1 0 1 #0:int) (0 0:int)):int"},
		{"(match Yes (Yes 1) (_ 2))", "{- | -}", "(match 0 (con 0.1):(data 0) (1 1:int) (-1 2:int)):int"},
		{`(match (Both 1 "a") (Both x y (pair y x)))`, "{int text}", `(match 0 (con 0.0 1:int "a":text):(data 0) (0 0 1 (pair #1:text #0:int):(pair text int))):(pair text int)`},
		{"(raise 1)", "", "(raise 1:int):unit"},
		{`(cat "a" (raise 1))`, "", `(cat "a":text (raise 1:int):text):text`},
		{"(try (raise 1) x (add x 1))", "", "(try 0 (raise 1:int):int (add #0:int 1:int):int):int"},
		{"(add 1 2)", "", "(add 1:int 2:int):int"},
		{"(sub 1 2)", "", "(sub 1:int 2:int):int"},
		{"(mul 1 2)", "", "(mul 1:int 2:int):int"},
		{"(less 1 2)", "", "(less 1:int 2:int):int"},
		{"(same 1 2)", "", "(same 1:int 2:int):int"},
		{`(cat "a" "b")`, "", `(cat "a":text "b":text):text`},
		{`(len "a")`, "", `(len "a":text):int`},
		{`(print "a")`, "", `(print "a":text):unit`},
		{"tick", "", "(tick):int"},
		{"(draw 1)", "", "(draw 1:int):int"},
		{"(get 1)", "", "(get 1:int):int"},
		{"(put 1 2)", "", "(put 1:int 2:int):unit"},
	} {
		wantOne(t, c[0], c[1], c[2])
	}
}

// TestWhatNobodyAsksFor: the second Kid stands alone, and what only the first one asks for is asked for by nobody.
func TestWhatNobodyAsksFor(t *testing.T) {
	for _, c := range [][3]string{
		{"(let id (fn x x) 5)", "", "5:int"},
		{"(rec f x (f x) 5)", "", "5:int"},
		{"(let a (fn x x) (let b (fn y (a y)) 5))", "", "5:int"},
		{"(let a (fn x x) (rec b y (a (b y)) (let c (pair a b) unit)))", "", "unit:unit"},
		{"(let n Nil Yes)", "{- | -}", "(con 0.1):(data 0)"},
		{"(let n (Cons Nil Nil) 5)", "", "5:int"},
		{"(pair (let id (fn x x) 1) (let id (fn x x) 2))", "", "(pair 1:int 2:int):(pair int int)"},
		{"(fn z (let id (fn x x) z))", "", "(fn 0 #0:unit):(fun unit unit)"},
		// Without Quant the first Kid stays.
		{"(let r (ref 1) 5)", "", "(let 0 (ref 1:int):(ref int) 5:int):int"},
		{"(let x 1 5)", "", "(let 0 1:int 5:int):int"},
		{"(let f (fn x (add x 1)) 5)", "", "(let 0 (fn 1 (add #1:int 1:int):int):(fun int int) 5:int):int"},
		{"(rec f x (add x (f x)) 5)", "", "(rec 0 1<(fun int int)> (add #1:int (app #0:(fun int int) #1:int):int):int 5:int):int"},
		{"(let v (fst (pair (fn x x) 1)) 5)", "", "(let 0 (fst (pair (fn 1 #1:unit):(fun unit unit) 1:int):(pair (fun unit unit) int)):(fun unit unit) 5:int):int"},
	} {
		wantOne(t, c[0], c[1], c[2])
	}
}

func TestWhatIsAskedFor(t *testing.T) {
	for _, c := range [][3]string{
		// Once, several times alike, at unlike types.
		{"(let id (fn x x) (id 1))", "", "(let 0 (fn 1 #1:int):(fun int int) (app #0:(fun int int) 1:int):int):int"},
		{"(let id (fn x x) (add (id 1) (id 2)))", "", "(let 0 (fn 1 #1:int):(fun int int) (add (app #0:(fun int int) 1:int):int (app #0:(fun int int) 2:int):int):int):int"},
		{"(let id (fn x x) (pair (id 1) (pair (id unit) (id 2))))", "",
			"(let 0 (fn 2 #2:int):(fun int int) (let 1 (fn 3 #3:unit):(fun unit unit) (pair (app #0:(fun int int) 1:int):int " +
				"(pair (app #1:(fun unit unit) unit:unit):unit (app #0:(fun int int) 2:int):int):(pair unit int)):(pair int (pair unit int))):(pair int (pair unit int))):(pair int (pair unit int))"},
		{"(rec f x (f x) (pair (f 1) (add (f unit) 1)))", "",
			"(rec 0 2<(fun int unit)> (app #0:(fun int unit) #2:int):unit (rec 1 3<(fun unit int)> (app #1:(fun unit int) #3:unit):int " +
				"(pair (app #0:(fun int unit) 1:int):unit (add (app #1:(fun unit int) unit:unit):int 1:int):int):(pair unit int)):(pair unit int)):(pair unit int)"},
		{"(rec f x x f)", "", "(rec 0 1<(fun unit unit)> #1:unit #0:(fun unit unit)):(fun unit unit)"},
		// By itself, at a type of itself.
		{"(let id (fn x x) (id id))", "",
			"(let 0 (fn 2 #2:(fun unit unit)):(fun (fun unit unit) (fun unit unit)) (let 1 (fn 3 #3:unit):(fun unit unit) " +
				"(app #0:(fun (fun unit unit) (fun unit unit)) #1:(fun unit unit)):(fun unit unit)):(fun unit unit)):(fun unit unit)"},
		// Two variables: an Inst is all of its types.
		{"(let k (fn x (fn y x)) (pair ((k 1) unit) ((k unit) 1)))", "",
			"(let 0 (fn 2 (fn 3 #2:int):(fun unit int)):(fun int (fun unit int)) (let 1 (fn 4 (fn 5 #4:unit):(fun int unit)):(fun unit (fun int unit)) " +
				"(pair (app (app #0:(fun int (fun unit int)) 1:int):(fun unit int) unit:unit):int (app (app #1:(fun unit (fun int unit)) unit:unit):(fun int unit) 1:int):unit):(pair int unit)):(pair int unit)):(pair int unit)"},
		// A value that is no function.
		{"(let p (pair (fn x x) Nil) ((fst p) 1))", "{- | unit (data 0)}",
			"(let 0 (pair (fn 1 #1:int):(fun int int) (con 0.0):(data 0)):(pair (fun int int) (data 0)) (app (fst #0:(pair (fun int int) (data 0))):(fun int int) 1:int):int):int"},
	} {
		wantOne(t, c[0], c[1], c[2])
	}
}

// TestForAllWithinForAll: what is put for the outer one is put in the inner one's Inst, too.
func TestForAllWithinForAll(t *testing.T) {
	for _, c := range [][3]string{
		// The inner let's first Kid asks for the outer one, as often as it is gone through.
		{"(let a (fn x x) (let b (fn y (a (ref y))) (pair (b 1) (b unit))))", "",
			"(let 3 (fn 6 #6:(ref int)):(fun (ref int) (ref int)) (let 5 (fn 7 #7:(ref unit)):(fun (ref unit) (ref unit)) " +
				"(let 0 (fn 2 (app #3:(fun (ref int) (ref int)) (ref #2:int):(ref int)):(ref int)):(fun int (ref int)) (let 1 (fn 4 (app #5:(fun (ref unit) (ref unit)) (ref #4:unit):(ref unit)):(ref unit)):(fun unit (ref unit)) " +
				"(pair (app #0:(fun int (ref int)) 1:int):(ref int) (app #1:(fun unit (ref unit)) unit:unit):(ref unit)):(pair (ref int) (ref unit))):(pair (ref int) (ref unit))):(pair (ref int) (ref unit))):(pair (ref int) (ref unit))):(pair (ref int) (ref unit))"},
		// It asks at a type at which the second Kid asked already.
		{"(let a (fn x x) (let b (fn y (a y)) (add (a 1) (b 2))))", "",
			"(let 0 (fn 3 #3:int):(fun int int) (let 1 (fn 2 (app #0:(fun int int) #2:int):int):(fun int int) (add (app #0:(fun int int) 1:int):int (app #1:(fun int int) 2:int):int):int):int):int"},
		// The inner one stands in the first Kid of the outer one: it is there in each of them, and asked for by unlike and by like types.
		{"(let a (fn x (let b (fn y y) (pair (b 1) (b x)))) (pair (a 1) (a unit)))", "",
			"(let 0 (fn 2 (let 3 (fn 4 #4:int):(fun int int) (pair (app #3:(fun int int) 1:int):int (app #3:(fun int int) #2:int):int):(pair int int)):(pair int int)):(fun int (pair int int)) " +
				"(let 1 (fn 5 (let 6 (fn 8 #8:int):(fun int int) (let 7 (fn 9 #9:unit):(fun unit unit) (pair (app #6:(fun int int) 1:int):int (app #7:(fun unit unit) #5:unit):unit):(pair int unit)):(pair int unit)):(pair int unit)):(fun unit (pair int unit)) " +
				"(pair (app #0:(fun int (pair int int)) 1:int):(pair int int) (app #1:(fun unit (pair int unit)) unit:unit):(pair int unit)):(pair (pair int int) (pair int unit))):(pair (pair int int) (pair int unit))):(pair (pair int int) (pair int unit))"},
		// A rec asks for itself by its number, and for the outer rec with an Inst.
		{"(rec a x x (rec b y (b (a y)) (b 1)))", "",
			"(rec 2 3<(fun int int)> #3:int (rec 0 1<(fun int unit)> (app #0:(fun int unit) (app #2:(fun int int) #1:int):int):unit (app #0:(fun int unit) 1:int):unit):unit):unit"},
		// Within a function, beside what is bound there without Quant.
		{"(fn z (let p (fn x (pair x z)) (pair (p 1) (p unit))))", "",
			"(fn 0 (let 1 (fn 3 (pair #3:int #0:unit):(pair int unit)):(fun int (pair int unit)) (let 2 (fn 4 (pair #4:unit #0:unit):(pair unit unit)):(fun unit (pair unit unit)) " +
				"(pair (app #1:(fun int (pair int unit)) 1:int):(pair int unit) (app #2:(fun unit (pair unit unit)) unit:unit):(pair unit unit)):(pair (pair int unit) (pair unit unit))):(pair (pair int unit) (pair unit unit))):(pair (pair int unit) (pair unit unit))):(fun unit (pair (pair int unit) (pair unit unit)))"},
		// Names that hide: the first Kid of a let does not see its own name.
		{"(let id (fn x x) (let id (fn y (id y)) (id 1)))", "",
			"(let 2 (fn 3 #3:int):(fun int int) (let 0 (fn 1 (app #2:(fun int int) #1:int):int):(fun int int) (app #0:(fun int int) 1:int):int):int):int"},
		{"(let f (fn x x) (let f (f 1) (add f f)))", "",
			"(let 1 (fn 2 #2:int):(fun int int) (let 0 (app #1:(fun int int) 1:int):int (add #0:int #0:int):int):int):int"},
		{"(let x (fn x (fn x x)) ((x 1) unit))", "",
			"(let 0 (fn 1 (fn 2 #2:unit):(fun unit unit)):(fun int (fun unit unit)) (app (app #0:(fun int (fun unit unit)) 1:int):(fun unit unit) unit:unit):unit):unit"},
	} {
		wantOne(t, c[0], c[1], c[2])
	}
}

// TestHowWhatIsBoundIsNumbered: the numbers alone, from the first one on.
func TestHowWhatIsBoundIsNumbered(t *testing.T) {
	for _, c := range [][2]string{
		{"(fn a (fn b (fn c 1)))", "fn0 fn1 fn2"},
		{"(pair (fn a 1) (pair (fn b 1) (fn c 1)))", "fn0 fn1 fn2"},
		// A let and a try ahead of both Kids.
		{"(let a ((fn b b) 1) ((fn c c) a))", "let0 fn1 fn2"},
		{"(try ((fn b b) 1) a ((fn c c) a))", "try0 fn1 fn2"},
		{"(let a (let b (ref 1) b) (let c (ref 2) a))", "let0 let1 let2"},
		// A rec: N, then M, then the Kids.
		{"(rec a b ((fn c (add b c)) 1) ((fn d d) 1))", "rec0,1 fn2 fn3"},
		{"(rec a b (rec c d (add b d) (c 1)) (rec e f (add f 1) (a 1)))", "rec0,1 rec2,3 rec4,5"},
		// The Kid, then the alts, each with its Vars ahead of its body.
		{"(match (Cons ((fn a a) 1) Nil) (Cons b c ((fn d d) b)) (Nil ((fn e e) 1)))", "match fn0 fn3 fn4"},
		{"(match (Both 1 2) (Both a b (match (Both a b) (Both c d (add c d)))))", "match match"},
		// With Quant: the second Kid, in it whatever is asked for, then the first Kids.
		{"(let a (fn b b) (pair (fn c (a c)) (a 1)))", "let1 fn3 let2 fn4 fn0"},
		{"(let a (fn b b) (pair (a 1) (fn c (a c))))", "let0 fn3 let2 fn4 fn1"},
		{"(rec a b b (pair (a 1) (a unit)))", "rec0,2 rec1,3"},
		{"(rec a b (fst (pair b (fn c c))) (pair (fn d (a 1)) (a unit)))", "rec1,3 fn4 rec2,5 fn6 fn0"},
		{"(let a (fn b (fn c b)) (let d (fn e ((a e) e)) (pair (d 1) (d unit))))", "let3 fn6 fn7 let5 fn8 fn9 let0 fn2 let1 fn4"},
		{"(fn z (let a (fn b b) (let c (ref (a 1)) (let d (fn e (a e)) (pair (d unit) (d 2))))))", "fn0 let2 fn8 let6 fn9 let1 let3 fn5 let4 fn7"},
	} {
		s := behindData(t, c[0])
		w := wantMonoWell(t, s.Datas, wantWell(t, s))
		if got := strings.Join(bindersOf(w.Body), " "); got != c[1] {
			t.Errorf("%s: %s: %s", c[0], got, sayLow(w.Body))
		}
	}
	s := behindData(t, "(match (Both 1 2) (Both a b (match (Both (fn c c) (fn d d)) (Both e f (add a b)))))")
	w := wantMonoWell(t, s.Datas, wantWell(t, s))
	if inner := w.Body.Alts[0].Body; !slices.Equal(w.Body.Alts[0].Vars, []int{0, 1}) || !slices.Equal(inner.Alts[0].Vars, []int{4, 5}) || inner.Kids[0].Kids[1].N != 3 {
		t.Error("the Vars of alts:", sayLow(w.Body))
	}
}

// bindersOf answers the words and numbers of all parts that bind or match, from the whole on.
func bindersOf(e impl.Low) []string {
	var list []string
	switch e.Kind {
	case impl.ExFn, impl.ExLet, impl.ExTry:
		list = append(list, fmt.Sprint(rawWords[e.Kind], e.N))
	case impl.ExRec:
		list = append(list, fmt.Sprint("rec", e.N, ",", e.M))
	case impl.ExMatch:
		list = append(list, "match")
	}
	for _, part := range lowParts(e) {
		list = append(list, bindersOf(part)...)
	}
	return list
}

// TestTheOrderOfLayouts: layouts and the type of the whole; the bodies are held elsewhere.
func TestTheOrderOfLayouts(t *testing.T) {
	const nests = "(data leaf 0 (Leaf))\n(data twig 0 (Twig leaf) (Bare int leaf))\n(data tree 1 (Tree '0 twig) (Last leaf))\n(data turn 2 (End '0) (Turn (turn '1 '0)))\n(data keep 1 (Keep '0) (More (pair (tree '0) (ref (keep '0)))))\n(data tag 1 (Tag int))\n"
	for _, c := range [][3]string{
		// A part's own type first, from the left.
		{"(pair (Tree 1 (Twig Leaf)) Leaf)", "{int (data 1) | (data 2)} {(data 2) | int (data 2)} {-}", "(pair (data 0) (data 2))"},
		{"(pair Leaf (Tree 1 (Twig Leaf)))", "{-} {int (data 2) | (data 0)} {(data 0) | int (data 0)}", "(pair (data 0) (data 1))"},
		{"(snd (pair (Twig Leaf) Leaf))", "{-} {(data 0) | int (data 0)}", "(data 0)"},
		{"(if 1 (fst (pair Leaf (Tag 1))) (raise 1))", "{-} {int}", "(data 0)"},
		// The Args first, from the left; then the data, and its Fields at once.
		{"(Tree Leaf (Twig Leaf))", "{-} {(data 0) (data 2) | (data 0)} {(data 0) | int (data 0)}", "(data 1)"},
		{"(Tree (Tree Leaf (Twig Leaf)) (Twig Leaf))", "{-} {(data 0) (data 2) | (data 0)} {(data 0) | int (data 0)} {(data 1) (data 2) | (data 0)}", "(data 3)"},
		{"(End (pair (Tag 1) Leaf))", "{int} {-} {(pair (data 0) (data 1)) | (data 3)} {unit | (data 2)}", "(data 2)"},
		// A data that names itself, one that names other instances of itself, and two that name each other.
		{"(Keep 1)", "{int | (pair (data 1) (ref (data 0)))} {int (data 2) | (data 3)} {(data 3) | int (data 3)} {-}", "(data 0)"},
		{"(End 1)", "{int | (data 1)} {unit | (data 0)}", "(data 0)"},
		{"(Turn (Turn (End unit)))", "{unit | (data 0)}", "(data 0)"},
		{"(match (End 1) (Turn x x) (_ (raise 1)))", "{unit | (data 1)} {int | (data 0)}", "(data 0)"},
		// One layout for each way of Args, also where the Fields are the same.
		{"(pair (Tag 1) (Tag 2))", "{int}", "(pair (data 0) (data 0))"},
		{"(let t (Tag 1) (pair (if 1 t t) (Keep t)))", "{int} {(data 0) | (pair (data 2) (ref (data 1)))} {(data 0) (data 3) | (data 4)} {(data 4) | int (data 4)} {-}", "(pair (data 0) (data 1))"},
		// Of a match the type first, then the data.
		{"(match (Tag 1) (Tag x Leaf))", "{-} {int}", "(data 0)"},
		{"(match (Last Leaf) (Tree x y x) (_ 5))", "{int (data 1) | (data 2)} {(data 2) | int (data 2)} {-}", "int"},
		{"(match (Tree 1 (Twig Leaf)) (Tree x y (Tag x)) (Last z (Tag 2)))", "{int} {int (data 2) | (data 3)} {(data 3) | int (data 3)} {-}", "(data 0)"},
		// Of a rec the type first, then Fun, then what the Kids ask for.
		{"(rec f x (match (f (add x 1)) (Twig y (f 2)) (Bare a b (Twig Leaf))) (Tag 5))", "{int} {(data 2) | int (data 2)} {-}", "(data 0)"},
		{"(rec f x (let u (Tag (add x 1)) (f 2)) (fst (pair Leaf (add 1 (f 3)))))", "{-} {int}", "(data 0)"},
		// With Quant: what the second Kid asks for first, then what the first Kids do, each in its turn.
		{"(let f (fn x (fst (pair 1 (Keep x)))) (add (f Leaf) (f unit)))",
			"{-} {(data 0) | (pair (data 2) (ref (data 1)))} {(data 0) (data 3) | (data 0)} {(data 0) | int (data 0)} {unit | (pair (data 5) (ref (data 4)))} {unit (data 3) | (data 0)}", "int"},
		{"(let f (fn x (fst (pair 1 (Twig Leaf)))) (let g (fn y (let z (ref (Tag 1)) (f y))) (add (f 1) (g unit))))", "{int} {(data 2) | int (data 2)} {-}", "int"},
		{"(let f (fn x (Tag 1)) (let u (f (Twig Leaf)) (f Leaf)))", "{int} {(data 2) | int (data 2)} {-}", "(data 0)"},
		// What nobody asks for asks for no layout.
		{"(let f (fn x (Twig Leaf)) (Tag 1))", "{int}", "(data 0)"},
	} {
		s := sourceOf(t, nests+c[0])
		w := wantMonoWell(t, s.Datas, wantWell(t, s))
		if sayLayouts(w.Layouts) != c[1] || rawText(w.Body.Ty) != c[2] {
			t.Errorf("%s: %s %s", c[0], sayLayouts(w.Layouts), sayLow(w.Body))
		}
	}
}

// TestTypesOfLetsWithinEachOther: each has the type of the let, not that of what it binds.
func TestTypesOfLetsWithinEachOther(t *testing.T) {
	for _, c := range []struct {
		text, ty string
		lets     int
	}{
		{`(let id (fn x x) (fst (pair (Cons (id 1) Nil) (pair (id "a") (id unit)))))`, "(data 0)", 3},
		{`(rec f x (f x) (fst (pair "r" (pair (add (f 1) 1) (cat (f unit) "a")))))`, "text", 2},
		{`(let k (fn x (fn y x)) (fn z (pair ((k z) 1) ((k 1) z))))`, "(fun unit (pair unit int))", 2},
	} {
		s := behindData(t, c.text)
		w := wantMonoWell(t, s.Datas, wantWell(t, s))
		part, lets := w.Body, 0
		for part.Kind == impl.ExLet || part.Kind == impl.ExRec {
			if rawText(part.Ty) != c.ty {
				t.Errorf("%s: let %d has the type %s", c.text, lets, rawText(part.Ty))
			}
			part = part.Kids[1]
			lets++
		}
		if lets != c.lets || rawText(part.Ty) != c.ty {
			t.Errorf("%s: %d lets: %s", c.text, lets, sayLow(w.Body))
		}
	}
}

// TestQuantThatIsNotInTheType: a term need not be the most general one. Each Inst is one of its own, and asks for no layout.
func TestQuantThatIsNotInTheType(t *testing.T) {
	datas, term := termOf(t, "(let id (fn x 1) (add (id unit) (id unit)))")
	ask := func(term *impl.Term, kid int) *impl.Term { return &term.Kids[1].Kids[kid].Kids[0] }
	more := func(first impl.Ty, second impl.Ty) impl.Term {
		turned := copyTerm(term)
		turned.Quant = append(turned.Quant, 9)
		ask(&turned, 0).Inst = append(ask(&turned, 0).Inst, first)
		ask(&turned, 1).Inst = append(ask(&turned, 1).Inst, second)
		return turned
	}
	for _, c := range []struct {
		first, second impl.Ty
		lets          int
	}{
		{tyInt, tyInt, 1}, {tyInt, tyText, 2}, {tyData(2), tyData(2), 1}, {tyData(0, tyInt), tyData(0, tyText), 2}, {tyData(0, tyInt), tyData(0, tyInt), 1},
		{tyData(0, tyData(0, tyData(2))), tyData(1, tyData(2), tyInt), 2}, {tyData(1, tyInt, tyUnit), tyData(1, tyUnit, tyInt), 2},
	} {
		w := wantMonoWell(t, datas, more(c.first, c.second))
		if len(w.Layouts) > 0 || len(bindersOf(w.Body)) != 2*c.lets {
			t.Errorf("%s and %s: %s %s", rawText(c.first), rawText(c.second), sayLayouts(w.Layouts), sayLow(w.Body))
		}
	}
	// Quant may be called as it likes, also as one that is for all elsewhere.
	plain := wantMonoWell(t, datas, term)
	for _, number := range []int{1, 5, 60, impl.MaxVar - 1} {
		turned := copyTerm(term)
		renumber(&turned, 0, number)
		if got := wantMonoWell(t, datas, turned); !sameWhole(got, plain) {
			t.Errorf("'%d: %s", number, sayLow(got.Body))
		}
	}
	datas, term = termOf(t, "(let a (fn x (let b (fn y y) (b x))) (let c (fn z (a z)) (pair (c 1) (c unit))))")
	turned := copyTerm(term)
	renumber(&turned, 2, 0)
	if !sameWhole(wantMonoWell(t, datas, turned), wantMonoWell(t, datas, term)) {
		t.Error("one variable that is for all at two lets")
	}
}

// TestWhatIsNoTermIsMonoForm: whatever else is too large.
func TestWhatIsNoTermIsMonoForm(t *testing.T) {
	datas, term := termOf(t, "(let id (fn x x) (pair (id 1) (Cons (id unit) Nil)))")
	for i, turn := range []func(p *impl.Term){
		func(p *impl.Term) { p.Kind = 77 }, func(p *impl.Term) { p.Ty = tyUnit }, func(p *impl.Term) { p.Quant = nil }, func(p *impl.Term) { p.Quant = append(p.Quant, p.Quant[0]) },
		func(p *impl.Term) { p.Name = []byte("fn") }, func(p *impl.Term) { p.Name = []byte("other") }, func(p *impl.Term) { p.Kids = p.Kids[:1] }, func(p *impl.Term) { p.Kids[1].Kids[0].Kids[0].Inst = nil },
		func(p *impl.Term) { p.Kids[1].Kids[0].Kids[0].Inst[0] = tyText }, func(p *impl.Term) { p.Kids[1].Kids[0].Kids[0].Inst[0] = tyVar(0) }, func(p *impl.Term) { p.Kids[0].Ty = tyVar(0) }, func(p *impl.Term) { p.Inst = []impl.Ty{tyInt} },
	} {
		turned := copyTerm(term)
		turn(&turned)
		wantNoMono(t, fmt.Sprint("turn ", i), impl.MonoForm, datas, turned)
	}
	wantNoMono(t, "without the datas", impl.MonoForm, nil, term)
	wantNoMono(t, "behind fewer datas", impl.MonoForm, datas[1:], term)
	wantNoMono(t, "behind datas that are none", impl.MonoForm, append(slices.Clone(datas), datas[0]), term)
	wantNoMono(t, "a number of another type", impl.MonoForm, nil, impl.Term{Kind: impl.ExInt})
	wantNoMono(t, "a name that is not bound", impl.MonoForm, nil, impl.Term{Kind: impl.ExVar, Name: []byte("x"), Ty: tyInt})
	wantNoMono(t, "an open variable", impl.MonoForm, nil, impl.Term{Kind: impl.ExRaise, Ty: tyVar(0), Kids: []impl.Term{intTerm}})
	wantNoMono(t, "far numbers", impl.MonoForm, datas, impl.Term{Kind: impl.ExCon, N: math.MaxInt, Con: math.MinInt})
	if w := wantMonoWell(t, nil, impl.Term{}); !isZeroWhole(w) {
		t.Error("the zero value is unit, and so is what comes of it")
	}
	kids := make([]impl.Term, 1)
	kids[0] = impl.Term{Kind: impl.ExRef, Ty: tyInt, Kids: kids}
	wantNoMono(t, "no end", impl.MonoForm, nil, kids[0])
	large := impl.Term{Kind: impl.ExText, Ty: tyText}
	for range impl.MaxDeep {
		large = impl.Term{Kind: impl.ExOp, N: impl.OpCat, Ty: tyText, Kids: []impl.Term{large, large}}
	}
	wantNoMono(t, "too deep", impl.MonoForm, nil, large)
}

// sortedValues answers texts of values of so many unlike types, those of few parts first.
func sortedValues() []string {
	var list []string
	leaves := []string{"1", "unit", `"t"`, "Yes"}
	for _, form := range []string{"%s", "(ref %s)", "(fn x %s)", "(ref (ref %s))", "(ref (fn x %s))", "(fn x (ref %s))", "(fn x (fn y %s))", "(pair 1 %s)", "(pair unit %s)", `(pair "t" %s)`, "(pair Yes %s)"} {
		for _, leaf := range leaves {
			list = append(list, fmt.Sprintf(form, leaf))
		}
	}
	return list
}

// sumOf answers the sum of all, as flat as can be.
func sumOf(list []string) string {
	if len(list) == 1 {
		return list[0]
	}
	half := len(list) / 2
	return bracket("add", sumOf(list[:half]), sumOf(list[half:]))
}

// asks answers the sum of so many calls of f, each at a type of its own.
func asks(count int) string {
	var calls []string
	for _, value := range sortedValues()[:count] {
		calls = append(calls, bracket("f", value))
	}
	return sumOf(calls)
}

// draws is a part so many times within a call, each of which makes it a part larger and deeper.
func draws(count int, leaf string) string {
	return strings.Repeat("(draw ", count) + leaf + strings.Repeat(")", count)
}

// sumText has so many parts, an odd number.
func sumText(parts int) string {
	return sumOf(slices.Repeat([]string{"3"}, (parts+1)/2))
}

// TestHowManyLayouts: MaxData, by several parts, by the Fields of one, or by instances without an end.
func TestHowManyLayouts(t *testing.T) {
	const opt = "(data opt 1 (None) (Some '0))\n"
	some := func(count int) string {
		list := []string{"1"}
		for _, value := range sortedValues() {
			if len(list) <= count && !strings.Contains(value, "Yes") {
				list = append(list, "(fst (pair 1 (Some "+value+")))")
			}
		}
		return opt + sumOf(list)
	}
	for _, count := range []int{0, 1, 2, 7, impl.MaxData - 1, impl.MaxData} {
		s := sourceOf(t, some(count))
		if w := wantMonoWell(t, s.Datas, wantWell(t, s)); len(w.Layouts) != count {
			t.Errorf("%d layouts, not %d", len(w.Layouts), count)
		}
	}
	wantLarge(t, some(impl.MaxData+1))
	wantLarge(t, some(impl.MaxData+2))
	// wide asks for 15 instances of opt by its Fields, and for one more by itself.
	wide := opt + "(data wide 1 (A (opt int) (opt text) (opt unit)) (B (opt (ref int)) (opt (ref text)) (opt (ref unit))) (C (opt (pair int int)) (opt (pair int text)) (opt (pair int unit)))" +
		" (D (opt (pair text int)) (opt (pair text text)) (opt (pair text unit))) (E (opt (pair unit int)) (opt (pair unit text)) (opt '0)))\n"
	nest := func(count int) string {
		return wide + "(E None None " + strings.Repeat("(Some ", count) + "(fn x 1)" + strings.Repeat(")", count) + ")"
	}
	s := sourceOf(t, nest(5))
	w := wantMonoWell(t, s.Datas, wantWell(t, s))
	if len(w.Layouts) != impl.MaxData || rawText(w.Body.Ty) != "(data 4)" || sayLayouts(w.Layouts[:2]) != "{- | (fun unit int)} {- | (data 0)}" || sayLayouts(w.Layouts[18:]) != "{- | (pair unit text)} {- | (data 3)}" {
		t.Errorf("%d layouts: %s", len(w.Layouts), sayLayouts(w.Layouts))
	}
	wantLarge(t, nest(6))
	wantLarge(t, nest(7))
	for _, more := range []string{"(pair (Some (ref (ref 1))) %s)", "(pair %s (Some (ref (ref 1))))", "(let z (Some (ref (ref 1))) %s)", "(let z %s (Some (ref (ref 1))))", "(fst (pair %s (fn y (match (Some (ref (ref 1))) (Some x x) (None (raise 1))))))"} {
		body := "(E None None (Some (Some (Some (Some %s)))))"
		wantMonoWell(t, s.Datas, wantWell(t, sourceOf(t, wide+fmt.Sprintf(more, fmt.Sprintf(body, "(fn x (add x 1))")))))
		wantLarge(t, wide+fmt.Sprintf(more, fmt.Sprintf(body, "(Some (fn x (add x 1)))")))
	}
	for _, text := range []string{
		"(data n 1 (Z) (S '0 (n (n '0))))\nZ", "(data n 1 (Z) (S '0 (n (ref '0))))\nZ", "(data n 1 (Z) (S '0 (n (pair '0 '0))))\n(S 1 Z)", "(data opt 1 (None) (Some '0))\n(data n 1 (Z) (S (n (opt '0))))\nZ",
		"(data n 2 (Z) (S (n '1 (ref '0))))\n(fn x (match x (Z 1) (S y 2)))",
	} {
		wantLarge(t, text)
	}
}

// TestTypesOnTheWay: a type of a part, of a Field, of a function and of a data with its Args, within its limits and beyond.
func TestTypesOnTheWay(t *testing.T) {
	const datas = "(data opt 1 (None) (Some '0))\n(data wide 1 (Small '0) (Wide (pair '0 '0)))\n(data high 2 (Low '1) (High (ref (ref '1))))\n(data two 2 (Two '0) (Other '1))\n" +
		"(data cell 1 (Cell '0))\n(data join 2 (Join '0 '1))\n"
	passed := 0
	for _, c := range []struct {
		text string
		most int
		part func(more int) string
	}{
		// Within f the type of x is put for what is for all.
		{"(let f (fn x (let y (pair x x) 1)) (f %s))", 29, sizedText},
		{"(let f (fn x (let y (pair 1 x) 1)) (f %s))", 58, sizedText},
		{"(let f (fn x (let y (pair 1 (ref x)) 1)) (f %s))", 57, sizedText},
		{"(let f (fn x (let y (pair x (pair x (ref x))) 1)) (f %s))", 19, sizedText},
		{"(let f (fn x (let y (fn z x) 1)) (f %s))", 58, sizedText},
		{"(let f (fn x (rec g y (if (add y 1) x (g y)) 1)) (f %s))", 58, sizedText},
		{"(let f (fn x (rec g y (if 1 x (g (pair x x))) (let h (g (raise 1)) 1))) (f %s))", 19, sizedText},
		{"(let f (fn x (let y (ref x) 1)) (f %s))", impl.MaxDepth - 1, refText},
		{"(let f (fn x (let y (ref (ref x)) 1)) (f %s))", impl.MaxDepth - 2, refText},
		{"(let f (fn x (let y (pair (ref (ref (ref x))) 1) 1)) (f %s))", impl.MaxDepth - 4, refText},
		{"(rec f x (let y (ref (ref x)) (fst (pair 1 (add 1 (f x))))) (f %s))", impl.MaxDepth - 2, refText},
		// By two functions.
		{"(let f (fn x (let y (pair x x) 1)) (let g (fn z (f (ref z))) (g %s)))", 28, sizedText},
		{"(let f (fn x (let y (ref x) 1)) (let g (fn z (f (ref z))) (g %s)))", impl.MaxDepth - 2, refText},
		// A Field, also one of a constructor that nobody names.
		{"(Small %s)", 29, sizedText},
		{"(match (Small %s) (Small x 1) (_ 2))", 29, sizedText},
		{"(Low %s)", impl.MaxDepth - 2, refText},
		{"(let f (fn x (let y (Small x) 1)) (f %s))", 29, sizedText},
		{"(let f (fn x (let y (ref (Low x)) 1)) (f %s))", impl.MaxDepth - 2, refText},
		{"(Some (Small %s))", 29, sizedText},
		// A data with its Args, and what is made of it, which counts them all.
		{"(let f (fn x (let y (Some (ref x)) 1)) (f %s))", impl.MaxDepth - 2, refText},
		{"(let f (fn x (let y (Some (pair 1 x)) 1)) (f %s))", 57, sizedText},
		{"(let f (fn x (let y (if 1 (Two x) (Other x)) 1)) (f %s))", 29, sizedText},
		{"(let f (fn x (let y (if 1 (Two x) (Other (ref x))) 1)) (f %s))", 29, sizedText},
		{"(let f (fn x (let y (Some (Some (Some x))) 1)) (f %s))", 57, sizedText},
		{"(let f (fn x (let y (Some (Some (Some x))) 1)) (f %s))", impl.MaxDepth - 3, refText},
		{"(let f (fn x (let y (ref (ref (ref (Some x)))) 1)) (f %s))", 56, sizedText},
		{"(let f (fn x (let y (ref (ref (ref (Some x)))) 1)) (f %s))", impl.MaxDepth - 4, refText},
		{"(let f (fn x (let y (pair (Some x) (pair (Some x) (Some x))) 1)) (f %s))", 18, sizedText},
		{"(let f (fn x (let y (pair (Some x) (pair (Some x) (Some x))) 1)) (f %s))", impl.MaxDepth - 3, refText},
		{"(let f (fn x (match (Some (Some (ref x))) (Some z 1) (None 2))) (f %s))", 57, sizedText},
	} {
		for _, as := range []func(text string) string{asItIs, asDatas} {
			for more := max(1, c.most-2); more <= c.most; more++ {
				s := sourceOf(t, datas+fmt.Sprintf(c.text, as(c.part(more))))
				wantMonoWell(t, s.Datas, wantWell(t, s))
			}
			// Of what has no type Mono is not asked.
			large := datas + fmt.Sprintf(c.text, as(c.part(c.most+1)))
			if _, code := impl.Infer(sourceOf(t, large)); code == impl.TypeWell {
				passed++
				wantLarge(t, large)
			}
		}
	}
	if passed != 2*26 {
		t.Error("the test's own texts:", passed)
	}
	// What nobody asks for is not on the way.
	for _, text := range []string{"(let f (fn x (let y (pair x x) 1)) (let g (fn z (f %s)) 5))", "(let v (Small %s) 5)"} {
		s := sourceOf(t, datas+fmt.Sprintf(text, "(pair "+sizedText(31)+" (fn w w))"))
		if w := wantMonoWell(t, s.Datas, wantWell(t, s)); w.Body.Kind != impl.ExInt {
			t.Errorf("%s: %s", text, sayLow(w.Body))
		}
	}
}

func asItIs(text string) string {
	return text
}

// asDatas answers a text whose type has, for each pair and cell, a data of as many Args.
func asDatas(text string) string {
	return strings.NewReplacer("(pair ", "(Join ", "(ref ", "(Cell ").Replace(text)
}

// TestDatasCountWithTheirArgs: a type on the way is that over the datas, whatever low type comes of it; each limit met, and passed by one.
func TestDatasCountWithTheirArgs(t *testing.T) {
	const put = "(data d 1 (C '0))\n(let f (fn x (fst (pair 1 (ref x)))) (f %s))"
	const field = "(data d 1 (B (ref (ref (ref '0)))) (C '0))\n%s"
	const joins = "(data cell 1 (Cell '0))\n(data join 2 (Join '0 '1))\n"
	const wide = joins + "(data d 1 (B (pair int '0)) (C '0))\n(C %s)"
	const twice = joins + "(data d 2 (A (pair '0 '1)) (C '0 '1))\n(C %s %s)"
	nest := func(count int) string { return strings.Repeat("(C ", count) + "1" + strings.Repeat(")", count) }
	joined := func(size int) string { return asDatas(sizedText(size)) }
	for _, c := range []struct {
		most, passed string
		layouts      int
	}{
		{fmt.Sprintf(put, nest(7)), fmt.Sprintf(put, nest(8)), 7},
		{fmt.Sprintf(field, nest(7)), fmt.Sprintf(field, nest(8)), 7},
		// The pair of int and the ref of 57, of 58.
		{joins + "(let f (fn x (fst (pair 1 (ref x)))) (f " + joined(57) + "))", joins + "(let f (fn x (fst (pair 1 (ref x)))) (f " + joined(58) + "))", 8},
		// The pair of int and 58, of int and 59; the data with these Args is a type.
		{fmt.Sprintf(wide, joined(58)), fmt.Sprintf(wide, joined(59)), 10},
		// Two Args of 59 in all: the pair of both is as large as the data.
		{fmt.Sprintf(twice, joined(29), joined(30)), "", 9},
		// A Field of a Field: cells of d are a data of their own.
		{"(data c 1 (E (pair int (pair int '0))) (F '0))\n(data d 1 (B (c (pair int '0))) (C '0))\n(C " + sizedText(54) + ")",
			"(data c 1 (E (pair int (pair int '0))) (F '0))\n(data d 1 (B (c (pair int '0))) (C '0))\n(C " + sizedText(55) + ")", 2},
		{"(data c 1 (E (ref (ref (ref '0)))) (F '0))\n(data d 1 (B (c (ref '0))) (C '0))\n(C " + refText(6) + ")",
			"(data c 1 (E (ref (ref (ref '0)))) (F '0))\n(data d 1 (B (c (ref '0))) (C '0))\n(C " + refText(7) + ")", 2},
	} {
		s := sourceOf(t, c.most)
		if w := wantMonoWell(t, s.Datas, wantWell(t, s)); len(w.Layouts) != c.layouts {
			t.Errorf("%s: %d layouts", c.most, len(w.Layouts))
		}
		if c.passed != "" {
			wantLarge(t, c.passed)
		}
	}
	// An Inst with what was put is on the way, too, though no part has it as its type.
	grown := func(depth int) ([]impl.Data, impl.Term) {
		datas, term := termOf(t, "(let g (fn x (let f (fn u 1) (f unit))) (g "+refText(depth)+"))")
		f := &term.Kids[0].Kids[0]
		f.Quant = append(f.Quant, 9)
		ask := &f.Kids[1].Kids[0]
		ask.Inst = append(ask.Inst, tyOf(impl.TyRef, tyOf(impl.TyRef, tyVar(term.Quant[0]))))
		return datas, term
	}
	datas, term := grown(impl.MaxDepth - 2)
	wantMonoWell(t, datas, term)
	datas, term = grown(impl.MaxDepth - 1)
	wantNoMono(t, "an Inst too deep", impl.MonoLarge, datas, term)
}

// TestAnInstAsksForNoLayout: of an ExVar its own type alone is gone through; what is put for Quant is asked for by the parts that have it.
func TestAnInstAsksForNoLayout(t *testing.T) {
	datas := []impl.Data{dataOf("o", 0, impl.Con{Name: []byte("A")}), dataOf("p", 0, impl.Con{Name: []byte("B")}, impl.Con{Name: []byte("D")}),
		dataOf("opt", 1, impl.Con{Name: []byte("None")}, impl.Con{Name: []byte("Some"), Fields: []impl.Ty{tyVar(0)}})}
	f := func(ty impl.Ty, inst int) impl.Term {
		return impl.Term{Kind: impl.ExVar, Name: []byte("f"), Ty: ty, Inst: []impl.Ty{tyData(inst)}}
	}
	let := func(first impl.Term, body impl.Term) impl.Term {
		return impl.Term{Kind: impl.ExLet, Name: []byte("f"), Ty: body.Ty, Quant: []int{0}, Kids: []impl.Term{first, body}}
	}
	first := func(kid impl.Term) impl.Term {
		pair := impl.Term{Kind: impl.ExPair, Ty: tyOf(impl.TyPair, tyInt, kid.Ty), Kids: []impl.Term{intTerm, kid}}
		return impl.Term{Kind: impl.ExFst, Ty: tyInt, Kids: []impl.Term{pair}}
	}
	add := func(a impl.Term, b impl.Term) impl.Term {
		return impl.Term{Kind: impl.ExOp, N: impl.OpAdd, Ty: tyInt, Kids: []impl.Term{a, b}}
	}
	b := impl.Term{Kind: impl.ExCon, N: 1, Ty: tyData(1)}
	// A function of unit whose parts have the type (opt '0), which it does not have itself.
	none := impl.Term{Kind: impl.ExCon, N: 2, Ty: tyData(2, tyVar(0)), Inst: []impl.Ty{tyVar(0)}}
	unitToInt := tyOf(impl.TyFun, tyUnit, tyInt)
	hidden := impl.Term{Kind: impl.ExFn, Name: []byte("u"), Ty: unitToInt, Kids: []impl.Term{first(none)}}
	call := func(inst int) impl.Term {
		return impl.Term{Kind: impl.ExApp, Ty: tyInt, Kids: []impl.Term{f(unitToInt, inst), {Kind: impl.ExUnit}}}
	}
	rec := func(body impl.Term) impl.Term {
		return impl.Term{Kind: impl.ExRec, Name: []byte("f"), Arg: []byte("u"), Ty: body.Ty, Quant: []int{0}, Inst: []impl.Ty{unitToInt}, Kids: []impl.Term{first(none), body}}
	}
	const fun = "(fn %d (fst (pair 1:int (con %d.0):(data %[2]d)):(pair int (data %[2]d))):int):(fun unit int)"
	for _, c := range []struct {
		term          impl.Term
		layouts, body string
	}{
		{let(intTerm, f(tyInt, 0)), "", "(let 0 1:int #0:int):int"},
		{let(intTerm, impl.Term{Kind: impl.ExIf, Ty: tyInt, Kids: []impl.Term{f(tyInt, 0), first(b), intTerm}}), "{- | -}",
			"(let 0 1:int (if #0:int (fst (pair 1:int (con 0.0):(data 0)):(pair int (data 0))):int 1:int):int):int"},
		// Behind what the second Kid asks for: the Args first, then the data.
		{let(hidden, add(call(0), first(b))), "{- | -} {-} {- | (data 1)}",
			"(let 0 " + fmt.Sprintf(fun, 1, 2) + " (add (app #0:(fun unit int) unit:unit):int (fst (pair 1:int (con 0.0):(data 0)):(pair int (data 0))):int):int):int"},
		// In the order of the first Kids; an Inst that was asked for already is one and the same.
		{let(hidden, add(call(1), add(call(0), call(1)))), "{- | -} {- | (data 0)} {-} {- | (data 2)}",
			"(let 0 " + fmt.Sprintf(fun, 2, 1) + " (let 1 " + fmt.Sprintf(fun, 3, 3) + " (add (app #0:(fun unit int) unit:unit):int (add (app #1:(fun unit int) unit:unit):int (app #0:(fun unit int) unit:unit):int):int):int):int):int"},
		{rec(add(call(1), first(b))), "{- | -} {- | (data 0)}",
			"(rec 0 1<(fun unit int)> (fst (pair 1:int (con 1.0):(data 1)):(pair int (data 1))):int (add (app #0:(fun unit int) unit:unit):int (fst (pair 1:int (con 0.0):(data 0)):(pair int (data 0))):int):int):int"},
		{rec(add(call(0), call(0))), "{-} {- | (data 0)}",
			"(rec 0 1<(fun unit int)> (fst (pair 1:int (con 1.0):(data 1)):(pair int (data 1))):int (add (app #0:(fun unit int) unit:unit):int (app #0:(fun unit int) unit:unit):int):int):int"},
	} {
		w := wantMonoWell(t, datas, c.term)
		if sayLayouts(w.Layouts) != c.layouts || sayLow(w.Body) != c.body {
			t.Errorf("%s: %s %s", sayTerm(c.term), sayLayouts(w.Layouts), sayLow(w.Body))
		}
	}
}

// sizedText has a type of that size, of numbers.
func sizedText(size int) string {
	return treeText(size, "1")
}

// TestHowManyLowParts: MaxLow of them, and one more.
func TestHowManyLowParts(t *testing.T) {
	const calls, first = 14, 99
	text := func(more int) string {
		return someData + bracket("let", "f", "(fn x "+sumText(first)+")", draws(more, asks(calls)))
	}
	base := wantWell(t, sourceOf(t, text(0)))
	most := impl.MaxLow - impl.LowNodes(wantMonoWell(t, sourceOf(t, text(0)).Datas, base).Body)
	if most < 3 || most > 30 {
		t.Fatal("the test's own text:", most)
	}
	for more := most - 2; more <= most; more++ {
		s := sourceOf(t, text(more))
		w := wantMonoWell(t, s.Datas, wantWell(t, s))
		if want := impl.MaxLow - most + more; rawLowNodes(w.Body) != want || impl.LowNodes(w.Body) != want {
			t.Errorf("%d parts, not %d", impl.LowNodes(w.Body), want)
		}
	}
	wantLarge(t, text(most+1))
	wantLarge(t, text(most+2))
	wantLarge(t, someData+bracket("let", "f", "(fn x "+sumText(first)+")", asks(calls+1)))
	// The last part that is one too many stands in a first Kid.
	wantLarge(t, someData+bracket("let", "f", "(fn x (draw "+sumText(first)+"))", draws(most-calls+1, asks(calls))))
	s := sourceOf(t, someData+bracket("let", "f", "(fn x (draw "+sumText(first)+"))", draws(most-calls, asks(calls))))
	if w := wantMonoWell(t, s.Datas, wantWell(t, s)); impl.LowNodes(w.Body) != impl.MaxLow {
		t.Errorf("%d parts", impl.LowNodes(w.Body))
	}
}

// TestHowDeepLowPartsAre: 2 MaxDeep, and one more.
func TestHowDeepLowPartsAre(t *testing.T) {
	const deepest = 2 * impl.MaxDeep
	text := func(calls int, deep int) string {
		inner := asks(calls)
		return someData + bracket("let", "f", "(fn x 1)", draws(deep-rawDeep(sourceOf(t, someData+inner).Body), inner))
	}
	for _, c := range []struct {
		calls, deep int
	}{{41, 37}, {41, 38}, {41, 39}, {42, 38}, {43, 37}, {44, 36}} {
		s := sourceOf(t, text(c.calls, c.deep))
		w := wantMonoWell(t, s.Datas, wantWell(t, s))
		if deep := rawLowDeep(w.Body); deep != c.calls+c.deep || deep > deepest {
			t.Errorf("%d calls: %d deep", c.calls, deep)
		}
	}
	for _, c := range []struct {
		calls, deep int
	}{{42, 39}, {43, 38}, {44, 37}, {43, 39}, {44, 39}} {
		wantLarge(t, text(c.calls, c.deep))
	}
	// The first Kid of the last let is the deepest.
	first := func(calls int, around int) string {
		return someData + draws(around, bracket("let", "f", "(fn x "+draws(10, "1")+")", asks(calls)))
	}
	for _, c := range []struct {
		calls, around int
	}{{41, 26}, {41, 27}, {42, 26}, {43, 25}} {
		s := sourceOf(t, first(c.calls, c.around))
		if w := wantMonoWell(t, s.Datas, wantWell(t, s)); rawLowDeep(w.Body) != c.around+c.calls+12 {
			t.Errorf("%d calls: %d deep", c.calls, rawLowDeep(w.Body))
		}
	}
	wantLarge(t, first(42, 27))
	wantLarge(t, first(43, 26))
}

// TestCopiesThatGrowFast: what would be far too large is refused at once.
func TestCopiesThatGrowFast(t *testing.T) {
	for _, step := range []string{"(fn x (add (%s x) (%s (ref x))))", "(fn x (add (%s (pair 1 x)) (%s (pair x 1))))", "(fn x (add (%s (fn z x)) (add (%s unit) (%s x))))"} {
		for count := 6; count < 13; count += 3 {
			text := "(let f0 (fn x 1) "
			for i := 1; i < count; i++ {
				text += fmt.Sprintf("(let f%d %s ", i, strings.ReplaceAll(step, "%s", fmt.Sprint("f", i-1)))
			}
			text += fmt.Sprintf("(f%d 1)", count-1) + strings.Repeat(")", count)
			s := sourceOf(t, text)
			w, code := impl.Mono(s.Datas, wantWell(t, s))
			if code == impl.MonoForm || code == impl.MonoLarge && !isZeroWhole(w) {
				t.Errorf("%s: %d", text, code)
			}
			if code == impl.MonoWell {
				wantPromised(t, s.Datas, wantWell(t, s), w)
			}
		}
	}
}

func (r *roll) low(e impl.Low) {
	r.text(e.Lit)
	r.ty(e.Ty)
	r.ty(e.Fun)
	enrol(r, e.Kids, func(kid impl.Low) bool { return sameLow(kid, spareLow) })
	enrol(r, e.Alts, func(alt impl.LowAlt) bool { return sameLowAlt(alt, spareLowAlt) })
	for _, alt := range e.Alts {
		enrol(r, alt.Vars, func(v int) bool { return v == spareWord })
	}
	for _, part := range lowParts(e) {
		r.low(part)
	}
}

func (r *roll) whole(w impl.Whole) {
	enrol(r, w.Layouts, func(layout impl.Layout) bool { return sameLayout(layout, spareLayout) })
	for _, layout := range w.Layouts {
		enrol(r, layout.Cons, func(fields []impl.Ty) bool { return slices.EqualFunc(fields, spareFields, rawSame) })
		for _, fields := range layout.Cons {
			r.ty(impl.Ty{Args: fields})
		}
	}
	r.low(w.Body)
}

// What fills the room behind the lists of low expressions: none of it may be.
var (
	spareLow    = impl.Low{Kind: 77, N: spareWord}
	spareLowAlt = impl.LowAlt{Con: spareWord}
	spareFields = []impl.Ty{spareTy}
	spareLayout = impl.Layout{Cons: [][]impl.Ty{spareFields}}
)

// roomyLow answers e in memory of its own, with filled room behind each of its lists.
func roomyLow(e impl.Low) impl.Low {
	e.Lit, e.Ty, e.Fun = roomy(string(e.Lit)), roomyTy(e.Ty), roomyTy(e.Fun)
	e.Kids, e.Alts = withSpare(e.Kids, spareLow), withSpare(e.Alts, spareLowAlt)
	for i := range e.Kids {
		e.Kids[i] = roomyLow(e.Kids[i])
	}
	for i, alt := range e.Alts {
		e.Alts[i] = impl.LowAlt{Con: alt.Con, Vars: withSpare(alt.Vars, spareWord), Body: roomyLow(alt.Body)}
	}
	return e
}

func roomyWhole(w impl.Whole) impl.Whole {
	layouts := withSpare(w.Layouts, spareLayout)
	for i, layout := range layouts {
		cons := withSpare(layout.Cons, spareFields)
		for k := range cons {
			cons[k] = roomyTys(cons[k])
		}
		layouts[i].Cons = cons
	}
	return impl.Whole{Layouts: layouts, Body: roomyLow(w.Body)}
}

// spoilLow writes over all that can be reached by e.
func spoilLow(e impl.Low) {
	scribble(e.Lit)
	scribbleTy(e.Ty)
	scribbleTy(e.Fun)
	for _, part := range lowParts(e) {
		spoilLow(part)
	}
	for i := range e.Kids {
		e.Kids[i] = spareLow
	}
	for i, alt := range e.Alts {
		for k := range alt.Vars {
			alt.Vars[k] = spareWord
		}
		e.Alts[i] = spareLowAlt
	}
}

func spoilWhole(w impl.Whole) {
	for i, layout := range w.Layouts {
		for k, fields := range layout.Cons {
			scribbleTy(impl.Ty{Args: fields})
			layout.Cons[k] = spareFields
		}
		w.Layouts[i] = spareLayout
	}
	spoilLow(w.Body)
}

// monoTexts are bodies behind someData that have a type; what comes of the last ones is too large.
func monoTexts() []string {
	return append(slices.Clone(wellTexts),
		"(let id (fn x x) (pair (id Nil) (pair (id \"a\") (id Nil))))", "(let p (pair Nil (fn x (Cons x Nil))) (pair ((snd p) 1) ((snd p) p)))", "(rec f x (Both x (snd (pair (f x) 1))) (pair (f Yes) (f \"lit\")))",
		"(let a (fn x (let b (fn y (Both x y)) (pair (b 1) (b x)))) (pair (a (Cons 1 Nil)) (a \"a\")))", "(let m (fn l (match l (Cons h r h) (Nil (raise 1)))) (pair (m (Cons 1 Nil)) (m (Cons \"a\" Nil))))",
		"(let t (fn f (try (f 1) e (f e))) (pair (t (fn x (ref x))) (t (fn y (pair y \"zz\")))))",
		"(let f (fn x (let y (pair x x) 1)) (f "+sizedText(40)+"))", bracket("let", "f", "(fn x "+sumText(99)+")", asks(20)))
}

func TestMonoHasMemoryOfItsOwn(t *testing.T) {
	codes := map[int]int{}
	for _, text := range monoTexts() {
		s := behindData(t, text)
		for _, turn := range []func(p *impl.Term){func(p *impl.Term) {}, func(p *impl.Term) { p.Ty = tyData(5) }} {
			term := copyTerm(wantWell(t, s))
			turn(&term)
			plain, plainCode := impl.Mono(s.Datas, term)
			codes[plainCode]++
			arg, datas := roomyTerm(term), roomySource(impl.Source{Datas: s.Datas}).Datas
			got, code := impl.Mono(datas, arg)
			if code != plainCode || !sameWhole(got, plain) {
				t.Errorf("%s: what lies behind a list was read", text)
			}
			all := newRoll()
			all.term(arg)
			all.source(impl.Source{Datas: datas})
			if all.spoilt || !sameTerm(arg, term) || !slices.EqualFunc(datas, s.Datas, sameData) {
				t.Errorf("%s: an argument was changed", text)
			}
			all.whole(got)
			all.whole(plain)
			if all.shared {
				t.Errorf("%s: lists that share memory: %s", text, sayLow(got.Body))
			}
			spoilTerm(arg)
			for _, d := range datas {
				for _, c := range d.Cons {
					scribbleTy(impl.Ty{Args: c.Fields})
				}
			}
			if !sameWhole(got, plain) {
				t.Errorf("%s: the answer changes with the term or the datas", text)
			}
			spoilWhole(got)
			if again, _ := impl.Mono(s.Datas, term); !sameWhole(again, plain) {
				t.Errorf("%s: an answer was kept", text)
			}
		}
	}
	for _, code := range []int{impl.MonoWell, impl.MonoForm, impl.MonoLarge} {
		if codes[code] == 0 {
			t.Error("the test's own texts:", codes)
		}
	}
}

// TestMonoOfTermsWhosePartsShare: lists that stand in several places of a term or of datas become lists of their own.
func TestMonoOfTermsWhosePartsShare(t *testing.T) {
	opt := tyData(0, tyInt)
	fields := []impl.Ty{tyOf(impl.TyPair, tyVar(0), tyVar(0))}
	datas := []impl.Data{dataOf("opt", 1, impl.Con{Name: []byte("None")}, impl.Con{Name: []byte("Some"), Fields: fields}, impl.Con{Name: []byte("Any"), Fields: fields})}
	args := []impl.Ty{opt, opt}
	lit := []byte("lit")
	none := impl.Term{Kind: impl.ExCon, Ty: opt, Inst: []impl.Ty{tyInt}}
	text := impl.Term{Kind: impl.ExText, Lit: lit, Ty: tyText}
	lambda := impl.Term{Kind: impl.ExFn, Name: []byte("x"), Ty: impl.Ty{Kind: impl.TyFun, Args: args}, Kids: []impl.Term{{Kind: impl.ExVar, Name: []byte("x"), Ty: opt}}}
	kids := []impl.Term{lambda, lambda}
	both := impl.Term{Kind: impl.ExPair, Ty: impl.Ty{Kind: impl.TyPair, Args: []impl.Ty{lambda.Ty, lambda.Ty}}, Kids: kids}
	match := impl.Term{Kind: impl.ExMatch, Ty: tyText, Inst: []impl.Ty{tyInt}, Kids: []impl.Term{none}, Alts: []impl.Alt{{Body: text}, {Con: -1, Body: text}}}
	term := impl.Term{Kind: impl.ExPair, Ty: tyOf(impl.TyPair, tyText, both.Ty), Kids: []impl.Term{match, both}}
	w := wantMonoWell(t, datas, term)
	all := newRoll()
	all.whole(w)
	if all.shared {
		t.Error("the parts of the answer share as those of the term:", sayLow(w.Body))
	}
	if got, want := sayLow(w.Body.Kids[1]), "(pair (fn 0 #0:(data 0)):(fun (data 0) (data 0)) (fn 1 #1:(data 0)):(fun (data 0) (data 0))):(pair (fun (data 0) (data 0)) (fun (data 0) (data 0)))"; got != want {
		t.Error("parts that share:", got)
	}
}

func TestMonoByManyAtOnce(t *testing.T) {
	var sources []impl.Source
	var plain []string
	say := func(s impl.Source) string {
		term, _ := impl.Infer(s)
		w, code := impl.Mono(s.Datas, term)
		return fmt.Sprint(code, sayLayouts(w.Layouts), sayLow(w.Body), impl.WholeOk(w))
	}
	for _, text := range monoTexts() {
		s := behindData(t, text)
		sources, plain = append(sources, s), append(plain, say(s))
	}
	var all sync.WaitGroup
	wrong := make([]int, 8)
	for worker := range wrong {
		all.Go(func() {
			for i, s := range sources {
				if say(s) != plain[i] {
					wrong[worker]++
				}
			}
		})
	}
	all.Wait()
	if !filled(wrong, 0) {
		t.Error("wrong answers:", wrong)
	}
}
