package tests

import (
	"fmt"
	"slices"
	"strings"
	"testing"

	"loop.example/g00293/impl"
)

// someData are the datas that most texts of this chapter stand behind.
const someData = "(data list 1 (Nil) (Cons '0 (list '0)))\n" +
	"(data both 2 (Both '1 '0))\n" +
	"(data bool 0 (No) (Yes))\n" +
	"(data ghost 2 (Ghost) (Half '0) (Body int text))\n"

func sourceOf(t *testing.T, text string) impl.Source {
	t.Helper()
	s, code, at := impl.Parse([]byte(text))
	if code != impl.ParseWell {
		t.Fatalf("the test's own text: %.200s: %d at %d", text, code, at)
	}
	return s
}

// behindData answers the source of a body behind someData.
func behindData(t *testing.T, body string) impl.Source {
	t.Helper()
	return sourceOf(t, someData+body)
}

func isZeroTerm(t impl.Term) bool {
	return sameTerm(t, impl.Term{})
}

func sameTerm(a impl.Term, b impl.Term) bool {
	return a.Kind == b.Kind && a.N == b.N && a.Con == b.Con && sameText(a.Name, b.Name) && sameText(a.Arg, b.Arg) && sameText(a.Lit, b.Lit) &&
		rawSame(a.Ty, b.Ty) && slices.Equal(a.Quant, b.Quant) && slices.EqualFunc(a.Inst, b.Inst, rawSame) &&
		slices.EqualFunc(a.Kids, b.Kids, sameTerm) && slices.EqualFunc(a.Alts, b.Alts, sameAlt)
}

func sameAlt(a impl.Alt, b impl.Alt) bool {
	return a.Con == b.Con && slices.EqualFunc(a.Vars, b.Vars, sameText) && sameTerm(a.Body, b.Body)
}

// sayTerm says all fields that a term's kind names: behind a word Quant in {}, Inst in <>, and names,
// then the Kids and the alts, and behind each part a colon and its type.
func sayTerm(t impl.Term) string {
	head := []string{rawWords[t.Kind] + sayMarks(t)}
	switch t.Kind {
	case impl.ExUnit:
		return "unit:" + rawText(t.Ty)
	case impl.ExInt:
		return fmt.Sprint(t.N, ":", rawText(t.Ty))
	case impl.ExText:
		return fmt.Sprintf("%q:%s", t.Lit, rawText(t.Ty))
	case impl.ExVar:
		return fmt.Sprintf("%s%s:%s", t.Name, sayMarks(t), rawText(t.Ty))
	case impl.ExApp:
		head[0] = "app"
	case impl.ExCon:
		head[0] = fmt.Sprintf("con %d.%d%s", t.N, t.Con, sayMarks(t))
	case impl.ExMatch:
		head[0] = fmt.Sprintf("match %d%s", t.N, sayMarks(t))
	case impl.ExOp:
		head[0] = rawOps[t.N]
	case impl.ExCall:
		head[0] = rawCalls[t.N]
	}
	for _, name := range [][]byte{t.Name, t.Arg} {
		if len(name) > 0 {
			head = append(head, string(name))
		}
	}
	for _, kid := range t.Kids {
		head = append(head, sayTerm(kid))
	}
	for _, alt := range t.Alts {
		head = append(head, sayAlt(alt))
	}
	return bracket(head...) + ":" + rawText(t.Ty)
}

func sayMarks(t impl.Term) string {
	text := ""
	if len(t.Quant) > 0 {
		text = "{" + strings.Trim(fmt.Sprint(t.Quant), "[]") + "}"
	}
	var types []string
	for _, ty := range t.Inst {
		types = append(types, rawText(ty))
	}
	if len(types) > 0 {
		text += "<" + strings.Join(types, ", ") + ">"
	}
	return text
}

func sayAlt(alt impl.Alt) string {
	items := []string{fmt.Sprint(alt.Con)}
	for _, name := range alt.Vars {
		items = append(items, string(name))
	}
	return bracket(append(items, sayTerm(alt.Body))...)
}

// namesNoMore says whether all fields of t that sayTerm leaves out are zero.
func namesNoMore(t impl.Term) bool {
	k := t.Kind
	named := func(kinds ...int) bool { return slices.Contains(kinds, k) }
	ok := (t.N == 0 || named(impl.ExInt, impl.ExCon, impl.ExMatch, impl.ExOp, impl.ExCall)) && (t.Con == 0 || named(impl.ExCon)) &&
		(len(t.Name) > 0) == named(impl.ExVar, impl.ExFn, impl.ExLet, impl.ExRec, impl.ExTry) && (len(t.Arg) > 0) == named(impl.ExRec) &&
		(len(t.Lit) == 0 || named(impl.ExText)) && (len(t.Quant) == 0 || named(impl.ExLet, impl.ExRec)) &&
		(len(t.Inst) == 0 || named(impl.ExVar, impl.ExRec, impl.ExCon, impl.ExMatch)) && (len(t.Alts) > 0) == named(impl.ExMatch)
	for _, part := range termParts(t) {
		ok = ok && namesNoMore(part)
	}
	return ok
}

func termParts(t impl.Term) []impl.Term {
	parts := slices.Clone(t.Kids)
	for _, alt := range t.Alts {
		parts = append(parts, alt.Body)
	}
	return parts
}

// rawStrip answers the expression of a term: what the document calls the source without its types.
func rawStrip(datas []impl.Data, t impl.Term) impl.Expr {
	e := impl.Expr{Kind: t.Kind, N: t.N, Name: t.Name, Arg: t.Arg, Lit: t.Lit}
	if t.Kind == impl.ExCon {
		e.N, e.Name = 0, datas[t.N].Cons[t.Con].Name
	}
	if t.Kind == impl.ExMatch {
		e.N = 0
	}
	for _, kid := range t.Kids {
		e.Kids = append(e.Kids, rawStrip(datas, kid))
	}
	for _, alt := range t.Alts {
		a := impl.Arm{Vars: alt.Vars, Body: rawStrip(datas, alt.Body)}
		if alt.Con >= 0 {
			a.Con = datas[t.N].Cons[alt.Con].Name
		}
		e.Arms = append(e.Arms, a)
	}
	return e
}

// wantWell looks for a term, which is TermOk and the source with types, and answers it.
func wantWell(t *testing.T, s impl.Source) impl.Term {
	t.Helper()
	got, code := impl.Infer(s)
	if code != impl.TypeWell {
		t.Errorf("%s: %d", rawPrint(s), code)
		return got
	}
	if !impl.NamesOk(s) || !impl.ArmsOk(s) || !impl.TermOk(s.Datas, got) {
		t.Errorf("%s: not NamesOk, ArmsOk or TermOk: %s", rawPrint(s), sayTerm(got))
	}
	if !namesNoMore(got) || !sameExpr(rawStrip(s.Datas, got), s.Body) {
		t.Errorf("%s: another source: %v", rawPrint(s), got)
	}
	return got
}

// wantTy looks for the type of the whole.
func wantTy(t *testing.T, text string, ty string) {
	t.Helper()
	if got := wantWell(t, behindData(t, text)); rawText(got.Ty) != ty {
		t.Errorf("%s: %s", text, sayTerm(got))
	}
}

// wantTerm looks for the whole term.
func wantTerm(t *testing.T, text string, term string) {
	t.Helper()
	if got := wantWell(t, behindData(t, text)); sayTerm(got) != term {
		t.Errorf("%s: %s", text, sayTerm(got))
	}
}

// wantCode looks for a code that refuses, and for what NamesOk and ArmsOk say then.
func wantCode(t *testing.T, s impl.Source, code int) {
	t.Helper()
	got, gotCode := impl.Infer(s)
	if gotCode != code || !isZeroTerm(got) {
		t.Errorf("%.300s: %d, not %d: %s", rawPrint(s), gotCode, code, sayTerm(got))
	}
	if impl.NamesOk(s) != (code > impl.TypeName) || impl.ArmsOk(s) != (code > impl.TypeArms) {
		t.Errorf("%.300s: NamesOk %v, ArmsOk %v, at %d", rawPrint(s), impl.NamesOk(s), impl.ArmsOk(s), code)
	}
}

func wantClash(t *testing.T, texts ...string) {
	t.Helper()
	for _, text := range texts {
		wantCode(t, behindData(t, text), impl.TypeClash)
	}
}

func wantNames(t *testing.T, texts ...string) {
	t.Helper()
	for _, text := range texts {
		if s := behindData(t, text); !impl.NamesOk(s) {
			t.Errorf("%s: not NamesOk", text)
		}
	}
}

func wantNoNames(t *testing.T, texts ...string) {
	t.Helper()
	for _, text := range texts {
		wantCode(t, behindData(t, text), impl.TypeName)
	}
}

func TestCodesOfTypes(t *testing.T) {
	codes := []int{impl.TypeWell, impl.TypeForm, impl.TypeName, impl.TypeArms, impl.TypeClash}
	if !slices.Equal(codes, []int{0, 1, 2, 3, 4}) {
		t.Error("codes:", codes)
	}
}

func TestNamesWithinAndOutsideOfWhereTheyAreBound(t *testing.T) {
	wantNames(t,
		"(fn x x)", "(fn x (fn y (pair x y)))", "(let x 1 x)", "(let x 1 (let y x (pair x y)))", "(try 1 x x)", "(try (fn x x) x x)",
		"(rec f x (f x) 1)", "(rec f x x f)", "(rec f x f f)", "(rec f x (fn y (f (x y))) (fn x (f x)))",
		"(match 1 (Cons x y x) (Nil 1))", "(match 1 (Cons x y y) (_ 1))", "(match 1 (Cons x y (pair x y)) (Nil 1))",
		"(match (fn x x) (Cons x y 1) (Nil 1))", "(fn x (match x (Cons y z (x (y z))) (Nil x) (_ x)))", "1", "tick", "Nil",
	)
	wantNoNames(t,
		"x", "(fn x y)", "(pair (fn x x) x)", "(pair x (fn x x))", "((fn x x) x)",
		"(let x x 1)", "(let x (fn y x) 1)", "(let x 1 y)", "(pair (let x 1 x) x)", "(let x (let y 1 x) 1)", "(let x (let y 1 y) y)",
		"(try x x 1)", "(try (raise x) x x)", "(try 1 x y)", "(pair (try 1 x x) x)",
		"(rec f x 1 x)", "(rec f x x (f x))", "(rec f x y f)", "(rec f x f y)", "(pair (rec f x f f) f)", "(pair (rec f x x 1) x)", "(rec f x (let y 1 y) y)",
		"(match x (Cons x y 1) (Nil 1))", "(match y (Cons x y 1) (Nil 1))", "(match 1 (Cons x y 1) (Nil x))", "(match 1 (Nil x) (Cons x y 1))",
		"(match 1 (Cons x y z) (Nil 1))", "(match 1 (Cons x y 1) (_ x))", "(pair (match 1 (Cons x y x) (Nil 1)) x)", "(match 1 (Cons a b 1) (Nil 1) (_ a))",
	)
}

// holes are texts that a part may stand in, in the place of %s: as each Kid of each kind, and as the body of an arm.
var holes = []string{
	"%s", "(fn v %s)", "(%s 1)", "(1 %s)", "(let v %s 1)", "(let v 1 %s)", "(rec v w %s 1)", "(rec v w 1 %s)", "(if %s 1 1)", "(if 1 %s 1)", "(if 1 1 %s)",
	"(pair %s 1)", "(pair 1 %s)", "(fst %s)", "(snd %s)", "(ref %s)", "(read %s)", "(write %s 1)", "(write 1 %s)", "(Half %s)", "(Cons %s Nil)", "(Cons 1 %s)",
	"(match %s (No 1) (Yes 1))", "(match No (No %s) (Yes 1))", "(match No (No 1) (Yes %s))", "(match No (No 1) (_ %s))", "(raise %s)", "(try %s v 1)", "(try 1 v %s)",
	"(add %s 1)", "(add 1 %s)", "(cat %s 1)", "(len %s)", "(print %s)", "(draw %s)", "(get %s)", "(put %s 1)", "(put 1 %s)",
}

// TestNamesInEachPart: a name is found that is not bound, wherever it stands.
func TestNamesInEachPart(t *testing.T) {
	for _, hole := range holes {
		text := fmt.Sprintf(hole, "x")
		wantNames(t, "(fn x "+text+")", "(let x 1 "+text+")", "(rec f x "+text+" 1)", "(match 1 (Cons x y "+text+") (Nil 1))")
		wantNoNames(t, text, "(fn y "+text+")", "(let x "+text+" 1)", "(try "+text+" x 1)", "(rec f x 1 "+text+")", "(match "+text+" (Cons x y 1) (Nil 1))")
		wantNoNames(t, fmt.Sprintf(hole, "(Some 1)"), fmt.Sprintf(hole, "(Cons 1)"), fmt.Sprintf(hole, "(match 1 (Cons x 1))"))
		wantCode(t, behindData(t, fmt.Sprintf(hole, "(match Nil (_ 1))")), impl.TypeArms)
	}
}

func TestHiddenNames(t *testing.T) {
	wantTy(t, `(fn x (let x "a" (cat x x)))`, "(fun unit text)")
	wantTy(t, `(let x 1 (fn x (cat x "a")))`, "(fun text text)")
	wantTy(t, `(let x 1 (let x "a" x))`, "text")
	wantTy(t, `(let x 1 (let x (pair x x) (let x (pair x x) x)))`, "(pair (pair int int) (pair int int))")
	wantTy(t, `(let x "a" (try (raise (len x)) x (add x 1)))`, "int")
	wantTy(t, `(let x "a" (pair (try 1 x x) x))`, "(pair int text)")
	wantTy(t, `(let f 1 (rec f x (if x (f x) "a") (f 1)))`, "text")
	wantTy(t, `(let x 1 (match (Cons "a" Nil) (Cons x y x) (Nil "b")))`, "text")
	wantTy(t, `(let x 1 (match (Cons "a" Nil) (Cons y z x) (Nil x)))`, "int")
	wantTy(t, `(let id (fn x x) (pair (fn id (add id 1)) (id "a")))`, "(pair (fun int int) text)")
	wantTy(t, `(rec f x (fn x (len x)) ((f 1) "a"))`, "int")
	wantTy(t, `(let x "a" (rec f x (add x 1) (pair x (f 1))))`, "(pair text int)")
	wantClash(t, `(let id (fn x x) (fn id (pair (id 1) (id "a"))))`)
}

func TestConstructorsThatAreThere(t *testing.T) {
	wantNames(t, "Nil", "(Cons 1 Nil)", "(Cons Nil Nil)", "(Both 1 2)", "No", "Yes", "Ghost", "(Half 1)", `(Body 1 "a")`, "(Body Nil Nil)",
		"(match 1 (Nil 1))", "(match 1 (Cons x y 1))", "(match 1 (Cons x y 1) (_ 2))", "(match 1 (_ 1))", "(match 1 (Nil 1) (No 1) (Both x y 1))")
	wantNoNames(t, "Some", "(Some 1)", "(Nil 1)", "(Nil 1 2 3)", "Cons", "(Cons 1)", "(Cons 1 2 3)", "Both", "(Both 1)", "(Both 1 2 3)", "(No unit)", "(Half 1 2)", "Half",
		"(match 1 (Some 1))", "(match 1 (Some x 1))", "(match 1 (Nil x 1))", "(match 1 (Cons 1))", "(match 1 (Cons x 1))", "(match 1 (Cons x y z 1))",
		"(match 1 (Nil 1) (Other 1))", "(match 1 (Nil 1) (Other 1) (_ 1))", "(match 1 (Nil 1) (Cons x 1))", "(match 1 (_ 1) (Cons x 1))",
		"(fn x (Cons x))", "(let x Cons 1)", "(match (Cons 1) (Nil 1))", "(match 1 (Nil (Cons 1)))", "(Cons (Cons 1) Nil)", "(Cons 1 (Nil 1))", "(match 1 (Nil (match 1 (Cons 1))))")
	for _, text := range []string{"Nil", "(Cons 1 2)", "(match 1 (Nil 1))", "(match 1 (Nil 1) (_ 1))", "(fn x Nil)"} {
		wantCode(t, sourceOf(t, text), impl.TypeName)
	}
}

func TestArmsOfOneMatch(t *testing.T) {
	for _, text := range []string{
		"(match Nil (Nil 1) (Cons x y 1))", "(match Nil (Cons x y 1) (Nil 1))", "(match Nil (Nil 1) (_ 1))", "(match Nil (Cons x y 1) (_ 1))",
		"(match (Both 1 2) (Both x y 1))", "(match No (No 1) (Yes 2))", "(match No (Yes 1) (No 2))", "(match No (Yes 1) (_ 2))",
		"(match Ghost (Ghost 1) (_ 1))", "(match Ghost (Body x y 1) (Half x 1) (_ 1))", "(match Ghost (Body x y 1) (Ghost 1) (Half x 1))",
		"(match 1 (Nil 1) (_ 1))", "(match No (Nil 1) (_ 1))",
	} {
		if s := behindData(t, text); !impl.ArmsOk(s) || !impl.NamesOk(s) {
			t.Errorf("%s: not ArmsOk", text)
		}
	}
	bad := []string{
		"(match Nil (Nil 1) (No 1))", "(match Nil (No 1) (Nil 1))", "(match Nil (Nil 1) (Cons x y 1) (No 1))", "(match Nil (Nil 1) (No 1) (_ 1))", "(match Nil (No 1) (Cons x y 1) (_ 1))",
		"(match Nil (Nil 1) (Both x y 1))", "(match No (No 1) (Yes 1) (Both x y 1) (_ 1))",
		"(match Nil (Nil 1) (Nil 1))", "(match Nil (Nil 1) (Nil 1) (_ 1))", "(match Nil (Nil 1) (Cons x y 1) (Nil 1))", "(match Nil (Nil 1) (Cons x y 1) (Cons x y 1))",
		"(match (Both 1 2) (Both x y 1) (Both x y 1))", "(match Ghost (Ghost 1) (Ghost 1) (Half x 1))", "(match Ghost (Half x 1) (Ghost 1) (Half x 1) (_ 1))",
		"(match Nil (_ 1))", "(match (Both 1 2) (_ 1))", "(match Nil (_ 1) (_ 1))", "(match 1 (_ 1))",
		"(match Nil (_ 1) (Nil 1))", "(match Nil (_ 1) (Nil 1) (Cons x y 1))", "(match Nil (Nil 1) (_ 1) (Cons x y 1))", "(match Nil (Nil 1) (_ 1) (_ 1))", "(match Nil (_ 1) (Nil 1) (_ 1))",
		"(match Nil (Nil 1) (Cons x y 1) (_ 1))", "(match (Both 1 2) (Both x y 1) (_ 1))", "(match Ghost (Ghost 1) (Half x 1) (Body x y 1) (_ 1))",
		"(match Nil (Nil 1))", "(match Nil (Cons x y 1))", "(match No (Yes 1))", "(match Ghost (Ghost 1) (Half x 1))", "(match Ghost (Half x 1) (Body x y 1))",
	}
	for _, text := range bad {
		wantCode(t, behindData(t, text), impl.TypeArms)
		for _, around := range []string{"(fn x %s)", "(let x 1 %s)", "(let x %s 1)", "(match %s (No 1) (Yes 1))", "(match No (No 1) (Yes %s))", "(match No (No %s) (_ 1))", "(add 1 %s)", `(cat 1 %s)`} {
			wantCode(t, behindData(t, fmt.Sprintf(around, text)), impl.TypeArms)
		}
	}
}

// TestArmsOfMaxCons: arms at the limits of constructors and arms.
func TestArmsOfMaxCons(t *testing.T) {
	datas := manyCons(impl.MaxCons)
	var arms []impl.Arm
	for _, c := range datas[0].Cons {
		arms = append(arms, armOf(string(c.Name), "", exInt(1)))
	}
	wild := armOf("", "", exInt(2))
	source := func(arms ...impl.Arm) impl.Source {
		return impl.Source{Datas: datas, Body: exMatch(exNamed(impl.ExCon, "C3"), arms...)}
	}
	wantWell(t, source(arms...))
	for i := range arms {
		most := slices.Delete(slices.Clone(arms), i, i+1)
		wantCode(t, source(most...), impl.TypeArms)
		wantWell(t, source(append(most, wild)...))
		wantWell(t, source(arms[i], wild))
		wantCode(t, source(append(most, arms[(i+1)%len(arms)])...), impl.TypeArms)
		wantCode(t, source(append(slices.Clone(arms), arms[i])...), impl.TypeArms)
	}
	wantCode(t, source(append(slices.Clone(arms), wild)...), impl.TypeArms)
}

func TestWhatIsNoSourceHasNoTypes(t *testing.T) {
	for _, s := range []impl.Source{
		bodyOnly(exOf(impl.ExFst)), bodyOnly(impl.Expr{Kind: 21}), bodyOnly(impl.Expr{Kind: -1}), bodyOnly(exInt(mostWhole + 1)), bodyOnly(exVar("fn")), bodyOnly(exVar("")),
		bodyOnly(bulk(impl.MaxNodes + 1)), bodyOnly(longBody(t, impl.MaxProgram+1)), {Datas: manyDatas(impl.MaxDatas + 1)}, {Datas: manyCons(0)},
		bodyOnly(exMatch(exInt(1))), bodyOnly(exRec("f", "f", exInt(1), exInt(1))), {Datas: withField(0, tyVar(0)), Body: exVar("nobody")},
		bodyOnly(exOf(impl.ExPair, exVar("nobody"), exOf(impl.ExFst))),
	} {
		got, code := impl.Infer(s)
		if code != impl.TypeForm || !isZeroTerm(got) || impl.NamesOk(s) || impl.ArmsOk(s) {
			t.Errorf("%v: %d", s, code)
		}
	}
	kids := make([]impl.Expr, 1)
	kids[0] = exOf(impl.ExFst, kids...)
	kids[0].Kids = kids
	if got, code := impl.Infer(bodyOnly(kids[0])); code != impl.TypeForm || !isZeroTerm(got) {
		t.Error("a tree without an end:", code)
	}
	wantWell(t, bodyOnly(bulk(7)))
	wantWell(t, impl.Source{})
}

// TestTheFirstReasonCounts: of several things that are wrong the first one of the codes is told.
func TestTheFirstReasonCounts(t *testing.T) {
	wantNoNames(t, "(pair nobody (match Nil (_ 1)))", "(match Nil (_ nobody))", "(pair (add 1 unit) nobody)", "(match No (Nil nobody))", "(pair (match Nil (Nil 1)) (Some 1))")
	for _, text := range []string{"(pair (add 1 unit) (match Nil (_ 1)))", "(match Nil (Nil (add 1 unit)))", "(pair (match Nil (Nil 1)) (1 1))"} {
		wantCode(t, behindData(t, text), impl.TypeArms)
	}
}

// TestTheWholeTermOfEveryKind: each kind of the table, to the field.
func TestTheWholeTermOfEveryKind(t *testing.T) {
	for _, c := range [][2]string{
		{"unit", "unit:unit"},
		{"-7", "-7:int"},
		{`"a b"`, `"a b":text`},
		{`""`, `"":text`},
		{"(fn x x)", "(fn x x:unit):(fun unit unit)"},
		{"(fn x (add x 1))", "(fn x (add x:int 1:int):int):(fun int int)"},
		{"((fn x (pair x 1)) unit)", "(app (fn x (pair x:unit 1:int):(pair unit int)):(fun unit (pair unit int)) unit:unit):(pair unit int)"},
		{"(let x 1 (pair x x))", "(let x 1:int (pair x:int x:int):(pair int int)):(pair int int)"},
		{"(let id (fn x x) (pair (id 1) (id unit)))", "(let{0} id (fn x x:'0):(fun '0 '0) (pair (app id<int>:(fun int int) 1:int):int (app id<unit>:(fun unit unit) unit:unit):unit):(pair int unit)):(pair int unit)"},
		{"(let k (fn x (fn y x)) ((k 1) unit))", "(let{0 1} k (fn x (fn y x:'0):(fun '1 '0)):(fun '0 (fun '1 '0)) (app (app k<int, unit>:(fun int (fun unit int)) 1:int):(fun unit int) unit:unit):int):int"},
		{"(let r (ref (fn x x)) (read r))", "(let r (ref (fn x x:unit):(fun unit unit)):(ref (fun unit unit)) (read r:(ref (fun unit unit))):(fun unit unit)):(fun unit unit)"},
		{"(rec f x (if x (f (sub x 1)) x) (f 3))", "(rec<(fun int int)> f x (if x:int (app f:(fun int int) (sub x:int 1:int):int):int x:int):int (app f:(fun int int) 3:int):int):int"},
		{"(rec f x (f x) (pair (f 1) (add (f unit) 1)))", "(rec{0 1}<(fun '0 '1)> f x (app f:(fun '0 '1) x:'0):'1 (pair (app f<int, unit>:(fun int unit) 1:int):unit (add (app f<unit, int>:(fun unit int) unit:unit):int 1:int):int):(pair unit int)):(pair unit int)"},
		{"(rec f x x f)", "(rec{0}<(fun '0 '0)> f x x:'0 f<unit>:(fun unit unit)):(fun unit unit)"},
		{`(if 1 "a" "b")`, `(if 1:int "a":text "b":text):text`},
		{"(pair 1 unit)", "(pair 1:int unit:unit):(pair int unit)"},
		{"(fst (pair 1 unit))", "(fst (pair 1:int unit:unit):(pair int unit)):int"},
		{"(snd (pair 1 unit))", "(snd (pair 1:int unit:unit):(pair int unit)):unit"},
		{`(ref "a")`, `(ref "a":text):(ref text)`},
		{"(read (ref 1))", "(read (ref 1:int):(ref int)):int"},
		{"(write (ref 1) 2)", "(write (ref 1:int):(ref int) 2:int):unit"},
		{"Nil", "(con 0.0<unit>):(data 0 unit)"},
		{"(Cons 1 Nil)", "(con 0.1<int> 1:int (con 0.0<int>):(data 0 int)):(data 0 int)"},
		{`(Both 1 "a")`, `(con 1.0<text, int> 1:int "a":text):(data 1 text int)`},
		{"Yes", "(con 2.1):(data 2)"},
		{"(Half 1)", "(con 3.1<int, unit> 1:int):(data 3 int unit)"},
		{`(Body 1 "a")`, `(con 3.2<unit, unit> 1:int "a":text):(data 3 unit unit)`},
		{"(match (Cons 1 Nil) (Cons x y x) (Nil 0))", "(match 0<int> (con 0.1<int> 1:int (con 0.0<int>):(data 0 int)):(data 0 int) (1 x y x:int) (0 0:int)):int"},
		{"(match Yes (Yes 1) (_ 2))", "(match 2 (con 2.1):(data 2) (1 1:int) (-1 2:int)):int"},
		{`(match (Both 1 "a") (Both x y (pair x y)))`, `(match 1<text, int> (con 1.0<text, int> 1:int "a":text):(data 1 text int) (0 x y (pair x:int y:text):(pair int text))):(pair int text)`},
		{`(match Ghost (Half x (fn y x)) (_ (fn z (add z 1))))`, "(match 3<int, unit> (con 3.0<int, unit>):(data 3 int unit) (1 x (fn y x:int):(fun int int)) (-1 (fn z (add z:int 1:int):int):(fun int int))):(fun int int)"},
		{"(raise 1)", "(raise 1:int):unit"},
		{`(cat "a" (raise 1))`, `(cat "a":text (raise 1:int):text):text`},
		{`(try (raise 1) x (add x 1))`, "(try x (raise 1:int):int (add x:int 1:int):int):int"},
		{"(add 1 2)", "(add 1:int 2:int):int"},
		{"(sub 1 2)", "(sub 1:int 2:int):int"},
		{"(mul 1 2)", "(mul 1:int 2:int):int"},
		{"(less 1 2)", "(less 1:int 2:int):int"},
		{"(same 1 2)", "(same 1:int 2:int):int"},
		{`(cat "a" "b")`, `(cat "a":text "b":text):text`},
		{`(len "a")`, `(len "a":text):int`},
		{`(print "a")`, `(print "a":text):unit`},
		{"tick", "(tick):int"},
		{"(draw 1)", "(draw 1:int):int"},
		{"(get 1)", "(get 1:int):int"},
		{"(put 1 2)", "(put 1:int 2:int):unit"},
	} {
		wantTerm(t, c[0], c[1])
	}
}

// TestLetsOfValues: what a let of a value binds is for all: it is used at unlike types.
func TestLetsOfValues(t *testing.T) {
	for _, c := range []struct{ value, uses, ty string }{
		{"(fn x x)", `(pair (v 1) (v "a"))`, "(pair int text)"},
		{"(fn x (fn y x))", `(pair ((v 1) unit) ((v "a") 2))`, "(pair int text)"},
		{"(fn x (raise 1))", `(pair (add (v 1) 1) (cat (v "a") (v v)))`, "(pair int text)"},
		{"(fn x (ref x))", `(pair (v 1) (v "a"))`, "(pair (ref int) (ref text))"},
		{"id", `(pair (v 1) (v "a"))`, "(pair int text)"},
		{"Nil", `(pair (Cons 1 v) (Cons "a" v))`, "(pair (data 0 int) (data 0 text))"},
		{"Ghost", `(pair (match v (Half x (add x 1)) (_ 1)) (match v (Half x (cat x "a")) (_ "b")))`, "(pair int text)"},
		{"(Cons (fn x x) Nil)", `(pair (match v (Cons f r (f 1)) (Nil 1)) (match v (Cons f r (f "a")) (Nil "b")))`, "(pair int text)"},
		{"(Both id Nil)", `(match v (Both f n (pair (f 1) (Cons "a" n))))`, "(pair int (data 0 text))"},
		{"(Half Nil)", `(match v (Half n (Cons 1 n)) (_ Nil))`, "(data 0 int)"},
		{"(pair id 1)", `(pair ((fst v) 1) ((fst v) "a"))`, "(pair int text)"},
		{"(pair unit (pair Nil (fn x x)))", `(pair ((snd (snd v)) 1) ((snd (snd v)) "a"))`, "(pair int text)"},
		{"(pair Nil (Cons id Nil))", `(pair (Cons 1 (fst v)) (Cons "a" (fst v)))`, "(pair (data 0 int) (data 0 text))"},
		{"unit", "(pair v v)", "(pair unit unit)"},
		{"1", "(add v v)", "int"},
		{`"a"`, "(cat v v)", "text"},
	} {
		wantTy(t, "(let id (fn y y) (let v "+c.value+" "+c.uses+"))", c.ty)
		wantTy(t, "(fn z (let id (fn y y) (let v "+c.value+" "+c.uses+")))", "(fun unit "+c.ty+")")
	}
}

// TestLetsOfWhatIsNoValue: what a let of anything else binds has one type, wherever it is used.
func TestLetsOfWhatIsNoValue(t *testing.T) {
	for _, first := range []string{
		"(id id)", "(id (fn x x))", "(let z 1 (fn x x))", "(let z 1 id)", "(rec f x x f)", "(rec f x (f x) id)", "(if 1 id id)", "(fst (pair id 1))", "(snd (pair 1 id))",
		"(read (ref id))", "(match Yes (Yes id) (No id))", "(match Yes (Yes id) (_ id))", "(raise 1)", "(try id e id)", "(try (raise 1) e id)",
	} {
		wantTy(t, "(let id (fn y y) (let v "+first+" (pair (add (v 1) 1) (v 2))))", "(pair int int)")
		wantClash(t, "(let id (fn y y) (let v "+first+` (pair (v 1) (v "a"))))`)
		got := wantWell(t, behindData(t, "(let id (fn y y) (let v "+first+" v))")).Kids[1]
		if len(got.Quant) > 0 || len(got.Kids[1].Inst) > 0 || rawText(got.Ty) != "(fun unit unit)" && rawText(got.Ty) != "unit" {
			t.Errorf("%s: %s", first, sayTerm(got))
		}
		for _, around := range []string{"(pair %s 1)", "(pair 1 %s)", "(pair id (pair %s id))", "(Cons %s Nil)", "(Cons id (Cons %s Nil))", "(Both 1 %s)", "(Half %s)", "(ref %s)", "(pair (ref %s) id)"} {
			got := wantWell(t, behindData(t, "(let id (fn y y) (let v "+fmt.Sprintf(around, first)+" v))")).Kids[1]
			if len(got.Quant) > 0 || len(got.Kids[1].Inst) > 0 {
				t.Errorf("%s in %s: %s", first, around, sayTerm(got))
			}
		}
	}
	wantTy(t, `(let r (ref Nil) (pair (write r (Cons 1 Nil)) (read r)))`, "(pair unit (data 0 int))")
	wantClash(t,
		`(let r (ref Nil) (pair (write r (Cons 1 Nil)) (write r (Cons "a" Nil))))`, `(let r (ref (fn x x)) (pair ((read r) 1) ((read r) "a")))`,
		`(let v (pair (raise 1) 1) (pair (add (fst v) 1) (cat (fst v) "a")))`, `(let v (Cons (raise 1) Nil) (pair (Cons 1 v) (Cons "a" v)))`,
		`(fn x (let y x (pair (y 1) (y "a"))))`, `(fn x (let y (pair x 1) (pair ((fst y) 1) ((fst y) "a"))))`, `(fn id (pair (id 1) (id "a")))`,
		`(match (Cons (fn x x) Nil) (Cons f r (pair (f 1) (f "a"))) (Nil (pair 1 "a")))`,
	)
	wantTy(t, "(let v (raise 1) 2)", "int")
	wantTerm(t, "(let v (fst (pair (fn x x) (fn y y))) (v 1))",
		"(let v (fst (pair (fn x x:int):(fun int int) (fn y y:unit):(fun unit unit)):(pair (fun int int) (fun unit unit))):(fun int int) (app v:(fun int int) 1:int):int):int")
}

// TestVariablesThatAreBoundAround: what a name around is bound at is not for all.
func TestVariablesThatAreBoundAround(t *testing.T) {
	for _, c := range [][2]string{
		{"(let f (fn x (let y x y)) f)", "(let{0} f (fn x (let y x:'0 y:'0):'0):(fun '0 '0) f<unit>:(fun unit unit)):(fun unit unit)"},
		{"(let f (fn x (let g (fn y x) g)) f)", "(let{0 1} f (fn x (let{2} g (fn y x:'0):(fun '2 '0) g<'1>:(fun '1 '0)):(fun '1 '0)):(fun '0 (fun '1 '0)) f<unit, unit>:(fun unit (fun unit unit))):(fun unit (fun unit unit))"},
		{"(fn x (let y (pair x Nil) y))", "(fn x (let{0} y (pair x:unit (con 0.0<'0>):(data 0 '0)):(pair unit (data 0 '0)) y<unit>:(pair unit (data 0 unit))):(pair unit (data 0 unit))):(fun unit (pair unit (data 0 unit)))"},
		{"(rec f x (let g (fn y (f y)) (g x)) f)", "(rec{0 1}<(fun '0 '1)> f x (let g (fn y (app f:(fun '0 '1) y:'0):'1):(fun '0 '1) (app g:(fun '0 '1) x:'0):'1):'1 f<unit, unit>:(fun unit unit)):(fun unit unit)"},
		{"(rec f x (let g (fn y x) (g 1)) f)", "(rec{0}<(fun '0 '0)> f x (let{1} g (fn y x:'0):(fun '1 '0) (app g<int>:(fun int '0) 1:int):'0):'0 f<unit>:(fun unit unit)):(fun unit unit)"},
		{"(fn l (match l (Cons h r (let p (fn z h) (p r))) (Nil 1)))", "(fn l (match 0<int> l:(data 0 int) (1 h r (let{0} p (fn z h:int):(fun '0 int) (app p<(data 0 int)>:(fun (data 0 int) int) r:(data 0 int)):int):int) (0 1:int)):int):(fun (data 0 int) int)"},
		{"(let f (fn u (let r (ref (fn y y)) r)) f)", "(let{0 1} f (fn u (let r (ref (fn y y:'1):(fun '1 '1)):(ref (fun '1 '1)) r:(ref (fun '1 '1))):(ref (fun '1 '1))):(fun '0 (ref (fun '1 '1))) f<unit, unit>:(fun unit (ref (fun unit unit)))):(fun unit (ref (fun unit unit)))"},
	} {
		wantTerm(t, c[0], c[1])
	}
	wantTy(t, `(fn x (let f (fn y (pair x y)) (pair (f 1) (f "a"))))`, "(fun unit (pair (pair unit int) (pair unit text)))")
	wantTy(t, `(fn x (let f (fn y (pair (add x 1) y)) (pair (f 1) (f "a"))))`, "(fun int (pair (pair int int) (pair int text)))")
	wantTy(t, `(fn x (fn x (let f (fn y (pair x y)) (pair (f 1) (f "a")))))`, "(fun unit (fun unit (pair (pair unit int) (pair unit text))))")
	wantTy(t, `((fn x (let f (fn y (pair x y)) (fst (f 1)))) "a")`, "text")
	wantClash(t, `(fn x (let f (fn y (if 1 x y)) (pair (f 1) (f "a"))))`, `(fn x (let f (fn y (write x y)) (pair (f 1) (f "a"))))`,
		`(let r (ref (fn z z)) (let f (fn y (write r y)) (pair (f (fn a 1)) (f (fn a "a")))))`, `(rec f x (pair (f 1) (f "a")) 1)`, `(rec f x (let g f (pair (g 1) (g "a"))) 1)`,
		`(match (Cons (fn z z) Nil) (Cons h r (let g h (pair (g 1) (g "a")))) (Nil (pair 1 "b")))`)
}

func TestLetsWithinLets(t *testing.T) {
	wantTy(t, `(let a (fn x x) (let b (a a) (let c (fn y (a y)) (pair (c 1) (c "a")))))`, "(pair int text)")
	wantTy(t, `(let a (let b (fn x x) (b b)) (a 1))`, "int")
	wantClash(t, `(let a (let b (fn x x) b) (pair (a 1) (a "a")))`)
	wantTy(t, `(let a (fn z (let b (fn x x) (pair (b z) (b b)))) (pair (fst (a 1)) ((snd (a "a")) unit)))`, "(pair int unit)")
	wantTy(t, `(let a (fn x (let b (fn y (let c (fn z (pair x (pair y z))) (pair (c 1) (c "a")))) (pair (b 2) (b unit)))) (pair (a 3) (a "c")))`,
		"(pair (pair (pair (pair int (pair int int)) (pair int (pair int text))) (pair (pair int (pair unit int)) (pair int (pair unit text)))) (pair (pair (pair text (pair int int)) (pair text (pair int text))) (pair (pair text (pair unit int)) (pair text (pair unit text)))))")
	wantTy(t, `(let twice (fn f (fn x (f (f x)))) (pair ((twice (fn x (add x 1))) 1) ((twice (fn x (cat x "a"))) "b")))`, "(pair int text)")
	wantTy(t, `(let twice (fn f (fn x (f (f x)))) ((((twice twice) twice) (fn x (mul x 2))) 1))`, "int")
}

func TestRecsAreForAll(t *testing.T) {
	wantTy(t, `(rec f x (f x) (pair (add (f 1) 1) (cat (f "a") (f unit))))`, "(pair int text)")
	wantTy(t, `(rec map f (fn l (match l (Nil Nil) (Cons h r (Cons (f h) ((map f) r))))) (pair ((map (fn x (add x 1))) (Cons 1 Nil)) ((map (fn x (len x))) (Cons "a" Nil))))`, "(pair (data 0 int) (data 0 int))")
	wantTy(t, `(rec size l (match l (Nil 0) (Cons h r (add 1 (size r)))) (add (size (Cons 1 Nil)) (size (Cons "a" Nil))))`, "int")
	wantTy(t, `(fn z (rec f x (if 1 z (f x)) (pair (f 1) (f "a"))))`, "(fun unit (pair unit unit))")
	wantTy(t, `(rec f x x (rec g y (f y) (pair (g 1) (g "a"))))`, "(pair int text)")
	wantTy(t, `(rec f x (rec g y (f y) (g x)) (pair (f 1) (f "a")))`, "(pair unit unit)")
	wantTerm(t, "(rec map f (fn l (match l (Nil Nil) (Cons h r (Cons (f h) ((map f) r))))) map)",
		"(rec{0 1}<(fun (fun '0 '1) (fun (data 0 '0) (data 0 '1)))> map f (fn l (match 0<'0> l:(data 0 '0) (0 (con 0.0<'1>):(data 0 '1)) "+
			"(1 h r (con 0.1<'1> (app f:(fun '0 '1) h:'0):'1 (app (app map:(fun (fun '0 '1) (fun (data 0 '0) (data 0 '1))) f:(fun '0 '1)):(fun (data 0 '0) (data 0 '1)) r:(data 0 '0)):(data 0 '1)):(data 0 '1))):(data 0 '1)):(fun (data 0 '0) (data 0 '1)) "+
			"map<unit, unit>:(fun (fun unit unit) (fun (data 0 unit) (data 0 unit)))):(fun (fun unit unit) (fun (data 0 unit) (data 0 unit)))")
}

// TestHowVariablesAreNumbered: from the first let or rec on, a let ahead of what stands in it, by first places in its type.
func TestHowVariablesAreNumbered(t *testing.T) {
	for _, c := range []struct{ text, quants string }{
		{"(let a (fn x x) (let b (fn y y) 1))", "a[0] b[1]"},
		{"(let a (fn x (let b (fn y y) x)) 1)", "a[0] b[1]"},
		{"(let a (fn x (let b (fn y y) b)) 1)", "a[0 1] b[2]"},
		{"(let a (fn x (fn y (pair y x))) (let b Nil 1))", "a[0 1] b[2]"},
		{"(let a 1 (let b (fn y y) (let c unit (let d Nil 1))))", "a[] b[0] c[] d[1]"},
		{"(let a (let b (fn x x) (b 1)) (let c (fn x x) 1))", "a[] b[0] c[1]"},
		{"(rec a x x (let b (fn y y) (rec c z (c z) 1)))", "a[0] b[1] c[2 3]"},
		{"(rec a x (let b (fn y y) (b x)) 1)", "a[0] b[1]"},
		{"(rec a x (rec b y (b (a y)) (b x)) (rec c z z 1))", "a[0] b[1] c[2]"},
		{"(pair (let a (fn x x) 1) (let b (fn x x) 1))", "a[0] b[1]"},
		{"(if (let a Nil 1) (let b Nil 1) (let c Nil 1))", "a[0] b[1] c[2]"},
		{"(match (let a Nil a) (Nil (let b Nil 1)) (Cons x y (let c Nil 1)))", "a[0] b[1] c[2]"},
		{"(try (let a Nil 1) e (let b Nil 1))", "a[0] b[1]"},
		{"((let a (fn x x) a) (let b (fn x x) b))", "a[0] b[1]"},
		{"(let a (pair Nil (fn x (fn y y))) (let b (pair (fn y Nil) Nil) 1))", "a[0 1 2] b[3 4 5]"},
		{"(fn z (let a (fn x (pair x z)) (let b (fn y (a y)) 1)))", "a[0] b[1]"},
	} {
		got := wantWell(t, behindData(t, c.text))
		if quants := strings.Join(quantsOf(got), " "); quants != c.quants {
			t.Errorf("%s: %s", c.text, quants)
		}
	}
	wantTerm(t, "(let a (fn x (fn y (pair y x))) 1)", "(let{0 1} a (fn x (fn y (pair y:'1 x:'0):(pair '1 '0)):(fun '1 (pair '1 '0))):(fun '0 (fun '1 (pair '1 '0))) 1:int):int")
	wantTerm(t, "(let a (fn f (fn x (f (x f)))) 1)", "(let{0 1} a (fn f (fn x (app f:(fun '0 '1) (app x:(fun (fun '0 '1) '0) f:(fun '0 '1)):'0):'1):(fun (fun (fun '0 '1) '0) '1)):(fun (fun '0 '1) (fun (fun (fun '0 '1) '0) '1)) 1:int):int")
	wantTerm(t, "(let a (Both (fn x x) Nil) 1)", "(let{0 1} a (con 1.0<(data 0 '0), (fun '1 '1)> (fn x x:'1):(fun '1 '1) (con 0.0<'0>):(data 0 '0)):(data 1 (data 0 '0) (fun '1 '1)) 1:int):int")
}

// quantsOf answers the names of all lets and recs with their Quant, as they come in the text.
func quantsOf(t impl.Term) []string {
	var list []string
	if t.Kind == impl.ExLet || t.Kind == impl.ExRec {
		list = append(list, fmt.Sprint(string(t.Name), t.Quant))
	}
	for _, part := range termParts(t) {
		list = append(list, quantsOf(part)...)
	}
	return list
}

// TestWhatIsFreeAtTheEnd: what is free and not for all is unit, within the parts, too.
func TestWhatIsFreeAtTheEnd(t *testing.T) {
	wantTy(t, "(fn x (fn y (pair y x)))", "(fun unit (fun unit (pair unit unit)))")
	wantTy(t, "(raise 1)", "unit")
	wantTy(t, "(ref Nil)", "(ref (data 0 unit))")
	wantTy(t, "Ghost", "(data 3 unit unit)")
	wantTy(t, "(rec f x (f x) (f 1))", "unit")
	wantTy(t, "(let id (fn x x) id)", "(fun unit unit)")
	wantTerm(t, "((fn y 1) (fn z z))", "(app (fn y 1:int):(fun (fun unit unit) int) (fn z z:unit):(fun unit unit)):int")
	wantTerm(t, "(let f (fn x ((fn y 1) (fn z z))) 1)", "(let{0} f (fn x (app (fn y 1:int):(fun (fun unit unit) int) (fn z z:unit):(fun unit unit)):int):(fun '0 int) 1:int):int")
	wantTerm(t, "(let f (fn x (let y (raise 1) x)) 1)", "(let{0} f (fn x (let y (raise 1:int):unit x:'0):'0):(fun '0 '0) 1:int):int")
	wantTerm(t, "(rec f x (let y Nil (raise 1)) 1)", "(rec{0 1}<(fun '0 '1)> f x (let{2} y (con 0.0<'2>):(data 0 '2) (raise 1:int):'1):'1 1:int):int")
}

func TestClashes(t *testing.T) {
	wantClash(t,
		"(1 1)", `("a" 1)`, "(unit unit)", "(tick unit)", "((pair 1 2) 1)", "((ref 1) 1)", "((Cons 1 Nil) 1)", "((fn x (add x 1)) unit)", `((fn x (cat x x)) 1)`, "((add 1 2) 1)",
		"(add ((fn x x) unit) 1)", "((fn f (f 1)) (fn x (cat x x)))", "(let f (fn x (add x 1)) (f unit))", `(let x 1 (cat x "a"))`,
		"(rec f x (add x 1) (f unit))", "(rec f x (f (add x 1)) (f unit))", "(rec f x (add x 1) (cat (f 1) (f 2)))", "(rec f x (add (f x) 1) (cat (f 1) (f 1)))", "(rec f x f 1)", "(rec f x (x f) 1)", "(rec f x 1 (add f 1))",
		"(if unit 1 2)", `(if "a" 1 2)`, "(if (fn x x) 1 2)", "(if 1 1 unit)", `(if 1 "a" 2)`, "(add (if 1 unit unit) 1)",
		"(fst 1)", "(snd unit)", "(fst (ref 1))", "(fst (fn x x))", "(snd Nil)", "(add (fst (pair unit 1)) 1)", "(add (snd (pair 1 unit)) 1)", "(add (pair 1 1) 1)",
		"(read 1)", "(read (pair 1 1))", "(read Yes)", "(add (read (ref unit)) 1)", "(write 1 1)", "(write (ref 1) unit)", `(write (ref "a") 1)`, "(add (write (ref 1) 1) 1)", "(add (ref 1) 1)",
		"(raise unit)", `(raise "a")`, "(raise (fn x x))", "(try 1 e unit)", `(try "a" e e)`, `(try 1 e (cat e "a"))`, "(add (try unit e unit) 1)",
		"(Cons 1 2)", `(Cons 1 (Cons "a" Nil))`, "(Cons 1 Yes)", `(Body "a" 1)`, "(Body 1 unit)", "(Body unit \"a\")", "(add Yes 1)", "(add Nil 1)", `(match (Half 1) (Half x (cat x x)) (_ "a"))`,
		"(match 1 (Yes 1) (No 2))", "(match Nil (Yes 1) (No 2))", "(match (fn x x) (Yes 1) (No 2))", "(match (Both 1 2) (Ghost 1) (_ 2))", "(match Ghost (Both x y 1))", "(if 1 (Both 1 2) Ghost)", "(match Yes (Yes 1) (No unit))", `(match Yes (Yes "a") (_ 1))`, "(add (match Yes (Yes unit) (No unit)) 1)",
		`(match (Cons 1 Nil) (Cons x y (cat x x)) (Nil "a"))`, "(match (Cons 1 Nil) (Cons x y y) (Nil 1))", "(match (Both 1 unit) (Both x y (add y 1)))", `(match (Both unit 1) (Both x y (add x 1)))`, "(match (Body 1 \"a\") (Body x y (add x y)) (_ 1))",
	)
	yes := behindData(t, "Yes")
	yes.Body = exOf(impl.ExApp, yes.Body, impl.Expr{})
	wantCode(t, yes, impl.TypeClash)
	for n, word := range rawOps {
		good, bad := "1", `"a"`
		if n == impl.OpCat || n == impl.OpLen {
			good, bad = bad, good
		}
		if n == impl.OpLen {
			wantTy(t, "(len "+good+")", "int")
			wantClash(t, "(len "+bad+")", "(len unit)", "(len (ref "+good+"))", `(cat "a" (len "a"))`)
			continue
		}
		wantTy(t, bracket(word, good, good), map[bool]string{true: "text", false: "int"}[n == impl.OpCat])
		wantClash(t, bracket(word, good, bad), bracket(word, bad, good), bracket(word, bad, bad), bracket(word, "unit", good), bracket(word, good, "unit"), bracket(word, good, "(fn x x)"), "(raise (pair 1 "+bracket(word, good, good)+"))")
	}
	wantClash(t, `(raise (cat "a" "a"))`, `(cat (add 1 1) "a")`, `(cat (less 1 1) "a")`, `(cat (same 1 1) "a")`)
	wantClash(t, "(print 1)", "(print unit)", `(add 1 (print "a"))`, "(cat tick tick)", `(draw "a")`, "(draw unit)", `(cat "a" (draw 1))`, `(get "a")`, `(cat "a" (get 1))`,
		`(put "a" 1)`, `(put 1 "a")`, "(put unit unit)", "(add 1 (put 1 1))")
}

// TestWhatStandsWithinItself: a type that would have to name itself.
func TestWhatStandsWithinItself(t *testing.T) {
	wantClash(t, "(fn x (x x))", "(fn x (x (fn y (x x))))", "(rec f x (f f) 1)", "(rec f x (pair x (f x)) 1)", "(rec f x (ref (f x)) 1)", "(fn x (write x x))", "(fn x (write (ref x) (ref x)))", "(fn x (if 1 x (ref x)))",
		"(fn x (if 1 x (pair x x)))", "(fn x (if 1 x (fst x)))", "(fn x (Cons x x))", "(fn x (match x (Cons h r (Cons x h)) (Nil Nil)))", "(fn f (fn x (if 1 (f x) (pair 1 (f x)))))",
		"(fn x (let y x (y y)))", "(fn x (fn y (pair (x y) (y x))))", "(let w (fn x (x x)) 1)", "((fn x (x x)) (fn x (x x)))", "(rec f x f 1)")
	wantTy(t, "(let id (fn x x) (id id))", "(fun unit unit)")
	wantTy(t, "(let f (fn x (pair x x)) (f f))", "(pair (fun unit (pair unit unit)) (fun unit (pair unit unit)))")
	wantTy(t, "(fn x (write x (read x)))", "(fun (ref unit) unit)")
}

// refText has a type of that depth: cells of cells of a number.
func refText(depth int) string {
	return strings.Repeat("(ref ", depth-1) + "1" + strings.Repeat(")", depth-1)
}

// treeText has a type of that size and as little depth as can be: pairs, with a cell where the size is even.
func treeText(size int, leaf string) string {
	switch size {
	case 1:
		return leaf
	case 2:
		return "(ref " + leaf + ")"
	}
	left := (size - 1) / 2
	return bracket("pair", treeText(left, leaf), treeText(size-1-left, leaf))
}

// readText reads so often that x must be a type of that depth.
func readText(depth int) string {
	return "(add 1 " + strings.Repeat("(read ", depth-1) + "x" + strings.Repeat(")", depth)
}

// wantLimit looks for what text makes of more to have a type just as far as most.
func wantLimit(t *testing.T, what string, most int, text func(more int) string) {
	t.Helper()
	for _, more := range []int{most - 1, most} {
		if s := behindData(t, text(more)); len(rawPrint(s)) <= impl.MaxProgram {
			if _, code := impl.Infer(s); code != impl.TypeWell {
				t.Errorf("%s at %d: %d", what, more, code)
			}
			wantWell(t, s)
		}
	}
	for _, more := range []int{most + 1, most + 2} {
		wantCode(t, behindData(t, text(more)), impl.TypeClash)
	}
}

func TestTypesAtTheLimitOfDepth(t *testing.T) {
	for _, c := range []struct {
		text string
		less int // by how much the type of the part is less deep than the deepest one of the whole
	}{
		{"%s", 0}, {"(let z %s 1)", 0}, {"(let z 1 %s)", 0}, {"(let z %s z)", 0}, {"(fst (pair 1 (let z %s 1)))", 0}, {"(if 1 %s (raise 1))", 0}, {"(if 1 (raise 1) %s)", 0}, {"(try %s e (raise e))", 0}, {"(try (raise 1) e %s)", 0},
		{"(pair %s 1)", 1}, {"(pair 1 %s)", 1}, {"(ref %s)", 1}, {"(fn x %s)", 1}, {"((fn x 1) %s)", 1}, {"((fn x x) %s)", 1}, {"(Half %s)", 1}, {"(Cons %s Nil)", 1}, {"(read (ref %s))", 1}, {"(write (raise 1) %s)", 1}, {"(fst (pair 1 %s))", 1},
		{"(match (Half %s) (Half x 1) (_ 2))", 1}, {"(match Yes (No %s) (_ (raise 1)))", 0}, {"(match Yes (No (raise 1)) (_ %s))", 0},
		{"(rec f x %s 1)", 1}, {"(rec f x 1 %s)", 0}, {"(rec f x x (f %s))", 1}, {"(let id (fn x x) (id %s))", 1}, {"(let id (fn x x) (fst (pair 1 (id %s))))", 1},
		{"((fn f (f %s)) (fn x 1))", 2}, {"(fn z (fn y %s))", 2},
	} {
		wantLimit(t, c.text, impl.MaxDepth-c.less, func(depth int) string { return fmt.Sprintf(c.text, refText(depth)) })
	}
	wantLimit(t, "what x must be", impl.MaxDepth-1, func(depth int) string { return "(fn x " + readText(depth) + ")" })
	wantLimit(t, "what x must be, applied", impl.MaxDepth-1, func(depth int) string { return "((fn x " + readText(depth) + ") (raise 1))" })
	wantLimit(t, "functions", impl.MaxDepth-1, func(count int) string { return strings.Repeat("(fn x ", count) + "1" + strings.Repeat(")", count) })
	wantLimit(t, "datas", impl.MaxDepth-1, func(count int) string {
		return strings.Repeat("(Cons ", count) + "Yes" + strings.Repeat(" Nil)", count)
	})
}

func TestTypesAtTheLimitOfSize(t *testing.T) {
	for _, c := range []struct {
		text string
		more int // by how much the greatest type is larger than that of the part
	}{
		{"%s", 0}, {"(let z %s 1)", 0}, {"(let z 1 %s)", 0}, {"(let z %s z)", 0}, {"(if 1 %s (raise 1))", 0}, {"(fst (pair 1 (let z %s 1)))", 0}, {"(match Yes (No %s) (_ (raise 1)))", 0},
		{"(pair %s 1)", 2}, {"(pair 1 %s)", 2}, {"(ref %s)", 1}, {"(fn x %s)", 2}, {"((fn x 1) %s)", 2}, {"(Half %s)", 2}, {"(Cons %s Nil)", 1}, {"(rec f x %s 1)", 2}, {"(match (Half %s) (Half x 1) (_ 2))", 2},
	} {
		wantLimit(t, c.text, impl.MaxSize-c.more, func(size int) string { return fmt.Sprintf(c.text, treeText(size, "1")) })
		wantLimit(t, c.text+" of variables", impl.MaxSize-c.more, func(size int) string { return fmt.Sprintf(c.text, treeText(size, "(raise 1)")) })
	}
	wantLimit(t, "piece by piece", (impl.MaxSize-3)/2, func(size int) string {
		tree := treeText(size, "1")
		return "(fn x (let a (if 1 (fst x) " + tree + ") (let b (if 1 (snd x) " + tree + ") (let y 1 2))))"
	})
	wantLimit(t, "twice in one type", (impl.MaxSize-1)/2, func(size int) string { return "((fn x x) " + treeText(size, "1") + ")" })
	wantLimit(t, "put for all", (impl.MaxSize-1)/2, func(size int) string { return "(let id (fn x x) (id " + treeText(size, "1") + "))" })
	wantLimit(t, "put for all, elsewhere", (impl.MaxSize-1)/2, func(size int) string {
		return "(let id (fn x x) (fst (pair 1 (let z (id " + treeText(size, "1") + ") 1))))"
	})
}

// TestArmsBoundAtWhatIsNoType: a name of an arm is bound at a type, also where nobody uses it.
func TestArmsBoundAtWhatIsNoType(t *testing.T) {
	const datas = "(data wide 1 (Small '0) (Wide (pair '0 '0)))\n(data high 2 (Low '1) (High (ref (ref '1))))\n"
	for _, c := range []struct {
		text string
		most int
		part func(more int) string
	}{
		{"(match (Small %s) (Small x 1) (Wide y 2))", (impl.MaxSize - 1) / 2, func(size int) string { return treeText(size, "1") }},
		{"(match (Small %s) (Wide y 2) (_ 1))", (impl.MaxSize - 1) / 2, func(size int) string { return treeText(size, "1") }},
		{"(match (Low %s) (Low x 1) (High y 2))", impl.MaxDepth - 2, refText},
		{"(match (Low %s) (High y 2) (_ 1))", impl.MaxDepth - 2, refText},
		{"(fn z (match (if z (Low %s) (raise 1)) (High y 2) (_ 1)))", impl.MaxDepth - 2, refText},
	} {
		wantWell(t, sourceOf(t, datas+fmt.Sprintf(c.text, c.part(c.most))))
		wantCode(t, sourceOf(t, datas+fmt.Sprintf(c.text, c.part(c.most+1))), impl.TypeClash)
	}
	// Within f the name is bound at a type of a variable that is for all.
	wantWell(t, sourceOf(t, datas+fmt.Sprintf("(let f (fn z (match z (Wide y 2) (_ 1))) (f (Small %s)))", treeText(impl.MaxSize/2, "1"))))
	wantWell(t, sourceOf(t, datas+fmt.Sprintf("(match (Small %s) (Small x 1) (_ 2))", treeText(impl.MaxSize-1, "1"))))
	wantWell(t, sourceOf(t, datas+fmt.Sprintf("(match (Low %s) (Low x 1) (_ 2))", refText(impl.MaxDepth-1))))
}

// TestTypesThatGrowFast: types that would be far too large are refused at once.
func TestTypesThatGrowFast(t *testing.T) {
	double := func(count int, first string, step string, last string) string {
		text := "(let a0 " + first + " "
		for i := 1; i < count; i++ {
			text += fmt.Sprintf("(let a%d %s ", i, strings.ReplaceAll(step, "%", fmt.Sprint("a", i-1)))
		}
		return text + strings.ReplaceAll(last, "%", fmt.Sprint("a", count-1)) + strings.Repeat(")", count)
	}
	wantLimit(t, "pairs", 4, func(count int) string { return double(count, "(pair 1 1)", "(pair % %)", "1") })
	wantLimit(t, "pairs of variables", 4, func(count int) string { return double(count, "(pair Nil Nil)", "(pair % %)", "1") })
	for count := 10; count < 35; count += 5 {
		wantClash(t, double(count, "(pair 1 1)", "(pair % %)", "1"), double(count, "(pair Nil Nil)", "(pair % %)", "1"), double(count, "(fn x (pair x x))", "(fn y (% (% y)))", "1"), double(count, "(fn x x)", "(fn z (pair % %))", "(fst %)"))
	}
}

// TestManyVariables: how many variables and binds there are is no limit.
func TestManyVariables(t *testing.T) {
	var nils func(count int) string
	nils = func(count int) string {
		if count == 1 {
			return "Nil"
		}
		return bracket("pair", nils(count/2), nils(count-count/2))
	}
	wantLimit(t, "a value of many variables", 20, func(count int) string { return "(let v " + nils(count) + " 1)" })
	got := wantWell(t, behindData(t, "(let v "+nils(20)+" (pair (fst (fst v)) (fst (snd v))))"))
	if len(got.Quant) != 20 || got.Quant[0] != 0 || got.Quant[19] != 19 || len(got.Kids[1].Kids[0].Kids[0].Kids[0].Inst) != 20 {
		t.Errorf("twenty variables: %s", sayTerm(got))
	}
	text, count := "1", 0
	for range 18 {
		text = "(add (let v " + nils(5) + " 2) " + text + ")"
		count += 5
	}
	got = wantWell(t, behindData(t, text))
	var all []int
	var walk func(impl.Term)
	walk = func(part impl.Term) {
		all = append(all, part.Quant...)
		for _, p := range termParts(part) {
			walk(p)
		}
	}
	walk(got)
	for i, n := range all {
		if i != n {
			t.Fatalf("variables: %v", all)
		}
	}
	if len(all) != count || impl.Nodes(behindData(t, text).Body) < 200 {
		t.Errorf("%d variables, not %d", len(all), count)
	}
	uses := "1"
	for range 35 {
		uses = "(add (fst (k (pair 1 unit))) " + uses + ")"
	}
	wantTy(t, "(let k (fn x x) "+uses+")", "int")
}

// behindLet is s behind a let that nobody uses.
func behindLet(s impl.Source, first impl.Expr) impl.Source {
	return impl.Source{Datas: s.Datas, Body: exNamed(impl.ExLet, "unused", first, s.Body)}
}

// unusedFirsts have a type behind any datas.
func unusedFirsts(t *testing.T) []impl.Expr {
	t.Helper()
	var list []impl.Expr
	for _, text := range []string{"unit", "1", "(fn x x)", "(raise 1)", "(ref (fn x x))", "(rec f x (f x) f)", "(let x (fn y y) (x x))", "(fn unused unused)", "(pair (fn x (fn y x)) tick)"} {
		list = append(list, sourceOf(t, text).Body)
	}
	return list
}

// wantSameBehindLets looks for the type of s, which must have one, behind lets that nobody uses.
func wantSameBehindLets(t *testing.T, s impl.Source) {
	t.Helper()
	plain, code := impl.Infer(s)
	if code != impl.TypeWell {
		t.Fatalf("%s: %d", rawPrint(s), code)
	}
	for _, first := range unusedFirsts(t) {
		behind := behindLet(s, first)
		if !rawSourceOk(behind) {
			continue
		}
		if got := wantWell(t, behind); !rawSame(got.Ty, plain.Ty) || !rawSame(got.Kids[1].Ty, plain.Ty) {
			t.Errorf("%s: %s, not %s", rawPrint(behind), rawText(got.Ty), rawText(plain.Ty))
		}
	}
}

// wellTexts are bodies behind someData that have a type.
var wellTexts = []string{
	"unit", "1", `"a"`, "(fn x x)", "(fn x (add x 1))", "((fn x x) 1)", "(let x 1 x)", "(let id (fn x x) (pair (id 1) (id unit)))", "(let k (fn x (fn y x)) ((k 1) k))",
	"(let r (ref (fn x x)) r)", "(rec f x (if x (f (sub x 1)) x) (f 3))", "(rec f x (f x) (pair (f 1) (f f)))", "(if 1 unit unit)", "(pair 1 (pair unit 2))", "(fst (pair 1 2))", "(snd (pair 1 2))",
	"(read (ref 1))", "(write (ref 1) 2)", "Nil", "(Cons 1 Nil)", `(Both 1 "a")`, "Yes", "(Half 1)", `(Body 1 "a")`, "(match (Cons 1 Nil) (Cons x y x) (Nil 0))", "(match Yes (Yes 1) (_ 2))",
	`(match (Both 1 "a") (Both x y (pair x y)))`, "(match Ghost (Half x x) (_ (raise 1)))", "(raise 1)", "(try (raise 1) x (add x 1))", `(cat "a" "b")`, `(len "a")`, `(print "a")`, "tick", "(draw 1)", "(get 1)", "(put 1 2)",
	"(let f (fn x (let g (fn y (pair x y)) (g (g x)))) (f f))", "(let p (pair Nil (fn x x)) ((snd p) (fst p)))", "(rec a x (rec b y (b (a y)) (b x)) a)", "(let c (Cons (fn x x) Nil) (match c (Cons f r (f 1)) (_ 2)))",
	"(rec map f (fn l (match l (Nil Nil) (Cons h r (Cons (f h) ((map f) r))))) ((map (fn x (add x 1))) (Cons 1 Nil)))", "(fn x (let y x (pair y (fn z y))))", "(let v (fst (pair (fn x x) 1)) (v 1))",
}

func TestTheSameTypeBehindALetThatNobodyUses(t *testing.T) {
	for _, text := range wellTexts {
		wantSameBehindLets(t, behindData(t, text))
	}
	// What has none has none behind a let, either.
	for _, text := range []string{"(add 1 unit)", "(fn x (x x))", `(fn f (pair (f 1) (f "a")))`} {
		for _, first := range unusedFirsts(t) {
			wantCode(t, behindLet(behindData(t, text), first), impl.TypeClash)
		}
	}
}
