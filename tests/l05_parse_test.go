package tests

import (
	"fmt"
	"slices"
	"strings"
	"sync"
	"testing"

	"loop.example/g00293/impl"
)

// wantRefused looks for the code at the place of the mark §.
func wantRefused(t *testing.T, code int, text string) {
	t.Helper()
	plain, at := marked(t, text)
	wantRefusedAt(t, code, at, plain)
}

func wantRefusedAt(t *testing.T, code int, at int, text string) {
	t.Helper()
	if s, gotCode, gotAt := impl.Parse([]byte(text)); gotCode != code || gotAt != at || !isZeroSource(s) {
		t.Errorf("%.300q: %d at %d, not %d at %d", text, gotCode, gotAt, code, at)
	}
}

// sampleTexts are whole texts, with and without datas.
func sampleTexts() []string {
	texts := []string{
		"(data list 1 (Nil) (Cons '0 (list '0))) Nil",
		"(data bool 0 (No) (Yes)) (data both 2 (Both '0 '1 bool)) (Both 1 2 Yes)",
		"(data all 2 (All (pair '0 '1) (fun (ref int) (all '1 unit)) text)) (fn x x)",
	}
	for _, c := range samples() {
		texts = append(texts, c.text)
	}
	return texts
}

func TestFormsThatAreCutShort(t *testing.T) {
	for _, text := range sampleTexts() {
		if strings.Contains(text, "(A a b c ") || strings.Contains(text, "(A x x)") {
			continue // a name that is cut off from its bracket's end is a variable: see TestNamesInArms
		}
		list, _ := rawLex(text)
		for _, token := range list {
			cut := text[:token.At]
			wantRefusedAt(t, impl.ParseForm, len(cut), cut)
			wantRefusedAt(t, impl.ParseForm, len(cut)+2, cut+" \n")
			wantRefusedAt(t, impl.ParseForm, len(strings.TrimRight(cut, " ")), strings.TrimRight(cut, " "))
		}
	}
}

func TestSomethingBehindTheWhole(t *testing.T) {
	for _, text := range sampleTexts() {
		for _, more := range []string{"(", ")", "x", "A", "1", `"a"`, "_", "'0", "fn", "unit", "(data d 0 (D))", "( data"} {
			wantRefused(t, impl.ParseForm, text+" §"+more)
			wantRefused(t, impl.ParseForm, text+"\n\n§"+more+" )")
		}
	}
}

func TestTokensThatCantStand(t *testing.T) {
	for _, text := range []string{
		"§", " \n§", "§)", "§fn", "§_", "§'0", "§data", "§int", "§text", "§fun", "§if", "§print", "(§", "(§)", "(§_ x)", "(§'0 x)", "(data x§)", "((§data x) 1)", "(§int 1)", "(§fun 1 2)", "(§text 1)",
		"(fn §)", "(fn §1 x)", "(fn §if 1)", "(fn §A 1)", "(fn §(x) 1)", `(fn §"x" 1)`, "(fn §_ 1)", "(fn §'0 1)", "(fn x§)", "(fn x y§", "(fn x y §z)", "(fn x §fn)",
		"(let §1 1 1)", "(let x§)", "(let x 1§)", "(let x 1 2 §3)", "(let §tick 1 2)",
		"(rec §1 x 1 2)", "(rec f §1 1 2)", "(rec f §f 1 2)", "(rec f §fn 1 2)", "(rec f §A 1 2)", "(rec f x§)", "(rec f x 1§)", "(rec f x 1 2 §3)", "(rec f §(x) 1 2)",
		"(if§)", "(if 1§)", "(if 1 2§)", "(if 1 2 3 §4)", "(pair§)", "(pair 1§)", "(pair 1 2 §3)", "(fst§)", "(fst 1 §2)", "(snd§)", "(ref§)", "(read 1 §2)", "(write 1§)",
		"(x§)", "(x 1 §2)", "(1§)", "(1 2 §3)", "(tick§)", "(tick 1 §2)", "(unit§)", "((fst x)§)", "((fst x) 1 §2)", `("a"§)`, "(x §fn)", "(x §_)",
		"(Some§)", "(Some §fn)", "(Some 1 §_)", "(Some 1 2 §'0)", "(Some 1 §data)",
		"(raise§)", "(raise 1 §2)", "(try§)", "(try 1§)", "(try 1 §2 3)", "(try 1 §A 3)", "(try 1 §try 3)", "(try 1 e§)", "(try 1 e 2 §3)", "(try e§)",
		"(add§)", "(add 1§)", "(add 1 2 §3)", "(len§)", "(len 1 §2)", "(cat 1§)", "(print§)", "(print 1 §2)", "(draw§)", "(get 1 §2)", "(put 1§)", "(put 1 2 §3)",
		"(match§)", "(match 1§)", "(match 1 §2)", "(match 1 §A)", "(match 1 §_)", "(match 1 (§))", "(match 1 (§a 1))", "(match 1 (§1))", "(match 1 (§(A) 1))", "(match 1 (§fn 1))",
		"(match 1 (A§))", "(match 1 (_§))", "(match 1 (A 1§", "(match 1 (A 1 §2))", "(match 1 (A x 1 §2))", "(match 1 (A 1)§", "(match 1 (A 1) §2)", "(match 1 (A 1) (§))", "(match 1 (A 1) (_ 2 §3))",
		"(match 1 (A x §fn))", "(match 1 (A §_))", "(match 1 (A x §'0))", "(match 1 (A x §data 1))", "(match (A 1)§)",
	} {
		wantRefused(t, impl.ParseForm, text)
	}
}

func TestDatasThatCantStand(t *testing.T) {
	for _, text := range []string{
		"(data§", "(data §)", "(data §1 0 (A)) 1", "(data §A 0 (A)) 1", "(data §fn 0 (A)) 1", "(data §data 0 (A)) 1", "(data §int 0 (A)) 1", "(data §_ 0 (A)) 1", "(data §(d) 0 (A)) 1",
		"(data d§)", "(data d §-1 (A)) 1", "(data d §3 (A)) 1", "(data d §x (A)) 1", "(data d §(A)) 1", `(data d §"0" (A)) 1`, "(data d §'0 (A)) 1", "(data d §1073741823 (A)) 1",
		"(data d 0§) 1", "(data d 0 §A) 1", "(data d 0 (§)) 1", "(data d 0 (§a)) 1", "(data d 0 (§1)) 1", "(data d 0 (§_)) 1", "(data d 0 (§(A))) 1", "(data d 0 (§data)) 1", "(data d 0 (A§", "(data d 0 (A)§",
		"(data d 0 (A) §B) 1", "(data d 0 (A) (B) §1) 1", "(data d 0 (A))§", "(data d 0 (A)) §)", "(data d 0 (A)) §data",
		"(data d 0 (A §1)) 1", "(data d 0 (A §A)) 1", "(data d 0 (A §x)) 1", "(data d 0 (A §fn)) 1", "(data d 0 (A §_)) 1", `(data d 0 (A §"int")) 1`, "(data d 0 (A §data)) 1", "(data d 0 (A int §1)) 1",
		"(data d 0 (A §pair)) 1", "(data d 0 (A §fun)) 1", "(data d 0 (A §ref)) 1", "(data d 0 (A (§))) 1", "(data d 0 (A (§int))) 1", "(data d 0 (A (§unit int))) 1", "(data d 0 (A (§1))) 1", "(data d 0 (A (§(ref int)))) 1",
		"(data d 0 (A (pair§))) 1", "(data d 0 (A (pair int§))) 1", "(data d 0 (A (pair int int §int))) 1", "(data d 0 (A (ref§))) 1", "(data d 0 (A (ref int §int))) 1", "(data d 0 (A (fun int§))) 1",
		"(data d 0 (A §'0)) 1", "(data d 1 (A '0 §'1)) 1", "(data d 2 (A '1 §'2)) 1", "(data d 2 (A '0 §'9)) 1", "(data d 0 (A (ref §'0))) 1", "(data d 2 (A (§'0 int))) 1",
		"(data d 2 (A '1)) (data e 1 (B '0 §'1)) 1",
		"(data d 0 (A (§d))) 1", "(data d 0 (A (§d int))) 1", "(data d 1 (A §d)) 1", "(data d 1 (A (d§))) 1", "(data d 1 (A (d int §int))) 1", "(data d 2 (A (d int§))) 1", "(data d 2 (A (d int int §int))) 1", "(data d 2 (A §d)) 1",
		"(data d 0 (A §e)) (data e 0 (B)) 1", "(data d 0 (A (§e int))) (data e 1 (B)) 1", "(data d 0 (A)) (data e 0 (B d e §f)) (data f 0 (C)) 1", "(data d 1 (A)) (data e 0 (B §d)) 1", "(data d 0 (A)) (data e 0 (B (§d))) 1",
		"(data d 0 (A)) (data §d 0 (B)) 1", "(data d 0 (A)) (data e 0 (B)) (data §d 0 (C)) 1", "(data d 0 (A) (§A)) 1", "(data d 0 (A) (B) (§A int)) 1", "(data d 0 (A)) (data e 0 (B) (§A)) 1",
		"1 §(data d 0 (A))", "(pair 1 (§data d 0 (A)))", "(fn x (§data d 0 (A)))", "(data d 0 (A) (§data e 0 (B))) 1",
	} {
		wantRefused(t, impl.ParseForm, text)
	}
	wantParsed(t, "(data d 1 (A (d '0)))1", impl.Source{Datas: []impl.Data{dataOf("d", 1, conOf("A", tyData(0, tyVar(0))))}, Body: exInt(1)})
	wantParsed(t, "(data d 0(A d))(data e 0(B d e))d", impl.Source{Datas: []impl.Data{dataOf("d", 0, conOf("A", tyData(0))), dataOf("e", 0, conOf("B", tyData(0), tyData(1)))}, Body: exVar("d")})
}

// TestNamesInArms: with a bracket's end right behind it a name is the body, else a variable.
func TestNamesInArms(t *testing.T) {
	for _, text := range []string{
		"(match 1 (A x §x 1))", "(match 1 (A x y §x 1))", "(match 1 (A x y §y z))", "(match 1 (A x §x", "(match 1 (A x §x (f x)))", "(match 1 (A x y z §x 1))", "(match 1 (A x y z §z a b))",
		"(match 1 (A x§", "(match 1 (A x y§", "(match 1 (A x y z§", "(match 1 (_ x§", "(match 1 (A x §", "(match 1 (A x y)§", "(match 1 (A x (f x)§",
		"(match 1 (_ x §1))", "(match 1 (_ x §x))", "(match 1 (_ x §y z))", "(match 1 (_ (f x) §x))", "(match 1 (A x (f x) §x))", "(match 1 (A tick §x))", "(match 1 (A Nil §x))", "(match 1 (A 1 §x))",
	} {
		wantRefused(t, impl.ParseForm, text)
	}
	for _, text := range []string{"(match 1 (A x y z §a 1))", "(match 1 (A x y z §a b))", "(match 1 (A x y z §a", "(match 1 (A x y z §a (f x)))", "(match 1 (A x y z §a 1 2 3", "(match 1 (A x y z §a fn"} {
		wantRefused(t, impl.ParseLong, text)
	}
	match := func(a impl.Arm) impl.Source { return bodyOnly(exMatch(exInt(1), a)) }
	wantParsed(t, "(match 1 (A x))", match(armOf("A", "", exVar("x"))))
	wantParsed(t, "(match 1 (A x x))", match(armOf("A", "x", exVar("x"))))
	wantParsed(t, "(match 1 (A x \n x\n))", match(armOf("A", "x", exVar("x"))))
	wantParsed(t, "(match 1(A x y z x))", match(armOf("A", "x y z", exVar("x"))))
	wantParsed(t, "(match 1(A x y z a))", match(armOf("A", "x y z", exVar("a"))))
	wantParsed(t, "(match 1 (A x y z(x y)))", match(armOf("A", "x y z", exOf(impl.ExApp, exVar("x"), exVar("y")))))
	wantParsed(t, "(match 1 (_ x))", match(armOf("", "", exVar("x"))))
	wantParsed(t, "(match 1 (A x y z tick))", match(armOf("A", "x y z", exNumbered(impl.ExCall, impl.CapTick))))
	wantParsed(t, `(match 1 (A x"x"))`, match(armOf("A", "x", exText("x"))))
}

// nested answers a type's text within that many brackets.
func nested(brackets int, leaf string) string {
	return strings.Repeat("(ref ", brackets) + leaf + strings.Repeat(")", brackets)
}

// chained answers an expression's text at that depth.
func chained(depth int, leaf string) string {
	return strings.Repeat("(fst ", depth-1) + leaf + strings.Repeat(")", depth-1)
}

func TestLimitsMetExactly(t *testing.T) {
	for _, text := range []string{
		rawPrint(impl.Source{Datas: manyDatas(impl.MaxDatas)}),
		"(data d 0 (A) (B) (C) (D) (E)) 1",
		"(data d 0 (A int int int)) 1",
		"(Some 1 2 3)",
		"(match 1 (A 1) (A 2) (A 3) (A 4) (A 5) (A 6))",
		"(match 1 (A x y z 1))",
		rawSay(bulk(impl.MaxNodes)),
		chained(impl.MaxDeep, "1"),
		"(data d 0 (A " + nested(impl.MaxDepth-1, "int") + ")) 1",
		"(data d 0 (A " + rawText(fieldOf(impl.MaxSize)) + ")) 1",
		rawSay(longBody(t, impl.MaxProgram)),
	} {
		s, code, at := impl.Parse([]byte(text))
		if code != impl.ParseWell || at != 0 || !rawSourceOk(s) {
			t.Errorf("%.100s: %d at %d", text, code, at)
		}
	}
}

func TestLimitsPassedByOne(t *testing.T) {
	six := strings.TrimSuffix(rawPrint(impl.Source{Datas: manyDatas(impl.MaxDatas)}), "unit\n")
	large := rawText(fieldOf(impl.MaxSize + 1))
	for _, text := range []string{
		six + "§(data d 0 (A)) 1", six + "§(data", six + "§(data fn", six + " §(data d0 0 (A)) 1",
		"(data d 0 (A) (B) (C) (D) (E) §(F)) 1", "(data d 0 (A) (B) (C) (D) (E) §(", "(data d 0 (A) (B) (C) (D) (E) §(A",
		"(data d 0 (A int int int §int)) 1", "(data d 0 (A int int int §(ref int))) 1", "(data d 1 (A int int int §'0)) 1", "(data d 0 (A int int int §d)) 1", "(data d 0 (A int int int §text", "(data d 0 (A int int int §(",
		"(Some 1 2 3 §4)", "(Some 1 2 3 §x)", "(Some 1 2 3 §Nil)", "(Some 1 2 3 §tick)", "(Some 1 2 3 §unit)", `(Some 1 2 3 §"a")`, "(Some 1 2 3 §(", "(Some 1 2 3 §4", "(Some 1 2 3 §(fn fn",
		"(match 1 (A 1) (A 2) (A 3) (A 4) (A 5) (A 6) §(A 7))", "(match 1 (A 1) (A 2) (A 3) (A 4) (A 5) (A 6) §(", "(match 1 (A 1) (A 2) (A 3) (A 4) (A 5) (A 6) §(fn",
		"(match 1 (A x y z §a 1))", "(match 1 (A x y z §a a 1))",
		chained(impl.MaxDeep+1, "§1"), chained(impl.MaxDeep+1, "§x"), chained(impl.MaxDeep+1, "§(fst 1)"), strings.Repeat("(fst ", impl.MaxDeep) + "§(", strings.Repeat("(", impl.MaxDeep) + "§(((", strings.Repeat("(fst ", impl.MaxDeep) + "§tick",
		chained(impl.MaxDeep, "(Some §1)"), chained(impl.MaxDeep, "(§x 1)"), chained(impl.MaxDeep, "(fn x §x)"), chained(impl.MaxDeep-1, "(match 1 (A (fst §x)))"), chained(impl.MaxDeep-1, "(match 1 (_ (§1 x)))"),
		"(data d 0 (A " + nested(impl.MaxDepth, "§int") + ")) 1", "(data d 0 (A " + nested(impl.MaxDepth, "§d") + ")) 1", "(data d 0 (A " + nested(impl.MaxDepth, "§(ref int)") + ")) 1", "(data d 0 (A " + strings.Repeat("(ref ", impl.MaxDepth) + "§(",
		"(data d 0 (A §" + large + ")) 1", "(data d 0 (A int §" + large + ")) 1", "(data d 0 (A int int §" + large + " 5)) 1", "(data d 0 (A) (B int §" + large + "", "(data d 0 (A §" + large + " " + large + ")) 1",
		"(data d 0 (A int int int §" + large + ")) 1",
	} {
		wantRefused(t, impl.ParseLong, text)
	}
}

// partsText has that many parts ahead of rest, which stands in the last place of all.
func partsText(parts int, rest string) string {
	return "(pair " + rawSay(bulk(parts-1)) + " " + rest + ")"
}

func TestPartsPassedByOne(t *testing.T) {
	well, _, _ := impl.Parse([]byte(partsText(impl.MaxNodes-1, "x")))
	if impl.Nodes(well.Body) != impl.MaxNodes {
		t.Fatal("the test's own text:", impl.Nodes(well.Body))
	}
	for _, rest := range []string{"§1", "§x", "§Nil", "§tick", "§unit", `§"a"`, "§(fst 1)", "§(", "§(fn fn", "§()", "§(Nil"} {
		wantRefused(t, impl.ParseLong, partsText(impl.MaxNodes, rest))
	}
	// The last part that there may be begins with a bracket: the one within it is too many.
	for _, rest := range []string{"(fst §1)", "(fst §(", "(§1 2)", "(§x", "(§(x 1) 2)", "(fn x §x)", "(Some §1)", "(Some §x", "(let x §1 x)", "(try §1 e 2)", "(match §1 (A 1))", "(§tick 1)", "(§unit x)"} {
		wantRefused(t, impl.ParseLong, partsText(impl.MaxNodes-1, rest))
	}
	for _, rest := range []string{"(fst§)", "(§", "(§)", "(fn §1 x)", "(§_ x)", "(match§)", "(Some§)", "(Some §fn)", "(rec f §f 1 2)", "(§data", "(try §_ e 2)"} {
		wantRefused(t, impl.ParseForm, partsText(impl.MaxNodes-1, rest))
	}
	for _, rest := range []string{"§)", "§fn", "§_", "§'0", "§data", "§"} {
		wantRefused(t, impl.ParseForm, strings.TrimSuffix(partsText(impl.MaxNodes, rest), ")"))
	}
	wantRefused(t, impl.ParseLong, partsText(impl.MaxNodes-2, "(match 1 (A §x))"))
	wantRefused(t, impl.ParseLong, partsText(impl.MaxNodes-3, "(match 1 (A x) (B a §b))"))
	wantRefused(t, impl.ParseLong, partsText(impl.MaxNodes-2, "(Some 1 §2)"))
	wantRefused(t, impl.ParseForm, partsText(impl.MaxNodes-2, "(fst 1 §2)"))
}

// TestLimitsAgainstForms: where one token breaks both it is ParseForm; of two tokens the first one counts.
func TestLimitsAgainstForms(t *testing.T) {
	six := strings.TrimSuffix(rawPrint(impl.Source{Datas: manyDatas(impl.MaxDatas)}), "unit\n")
	large := rawText(fieldOf(impl.MaxSize + 1))
	for _, text := range []string{
		"(data d 0 (A int int int §fn)) 1", "(data d 0 (A int int int §e)) 1", "(data d 0 (A int int int §'0)) 1", "(data d 1 (A int int int §d)) 1", "(data d 0 (A int int int §1)) 1", "(data d 0 (A int int int §A)) 1",
		"(data d 0 (A int int int §pair)) 1", "(data d 0 (A int int int§", "(data d 0 (A) (B) (C) (D) (E) §F) 1", "(data d 0 (A) (B) (C) (D) (E)§",
		"(Some 1 2 3 §fn)", "(Some 1 2 3 §_)", "(Some 1 2 3 §'0)", "(Some 1 2 3 §data)", "(Some 1 2 3§",
		"(match 1 (A 1) (A 2) (A 3) (A 4) (A 5) (A 6) §7)", "(match 1 (A 1) (A 2) (A 3) (A 4) (A 5) (A 6) §A)", "(match 1 (A 1) (A 2) (A 3) (A 4) (A 5) (A 6)§",
		"(match 1 (A x y z §x 1))", "(match 1 (A x y z §y z))", "(match 1 (A x y z §fn 1))", "(match 1 (A x y z §_))", "(match 1 (A x y z§",
		chained(impl.MaxDeep+1, "§fn"), chained(impl.MaxDeep+1, "§_"), strings.Repeat("(fst ", impl.MaxDeep) + "§", strings.Repeat("(fst ", impl.MaxDeep) + "§)",
		"(data d 0 (A " + nested(impl.MaxDepth, "§e") + ")) 1", "(data d 0 (A " + nested(impl.MaxDepth, "§1") + ")) 1", "(data d 0 (A " + nested(impl.MaxDepth, "§ref") + ")) 1", "(data d 0 (A " + nested(impl.MaxDepth, "§'0") + ")) 1",
		"(data d 0 (A " + strings.TrimSuffix(large, ")") + "§", "(data d 0 (A " + strings.TrimSuffix(large, ")") + " §int)) 1", "(data d 0 (A (pair " + large + " §fn))) 1",
		six + "§data", six + "(fn§", six + "§)",
		"(pair §fn (Some 1 2 3 4))", "(data d 0 (A §fn int int int int)) 1", "(match 1 (A x §x y z a 1))", "(data §fn 0 (A int int int int)) 1", "(data d 0 (A §fn " + large + ")) 1",
	} {
		wantRefused(t, impl.ParseForm, text)
	}
	for _, text := range []string{
		"(Some 1 2 3 §4 fn)", "(Some 1 2 3 §(fn fn", "(data d 0 (A int int int §(fn", "(data d 0 (A int int int §int fn", "(match 1 (A x y z §a a x fn", "(data d 0 (A int int int §int) (A)) 1",
		"(data d 0 (A) (B) (C) (D) (E) §(A)) 1", six + "§(data d0 0 (D0)) 1", "(match 1 (A 1) (A 2) (A 3) (A 4) (A 5) (A 6) §(a",
		"(pair (Some 1 2 3 §4) fn)", "(data d 0 (A §" + large + " fn)) 1", "(data d 0 (A §" + large + ")) fn", chained(impl.MaxDeep+1, "§(fn fn"),
	} {
		wantRefused(t, impl.ParseLong, text)
	}
	// A byte that can't be is told ahead of all that is read.
	for _, text := range []string{"(fn if §%", "(Some 1 2 3 4 §-0)", six + "(data d 0 (A)) §aB", ") ) §1073741824"} {
		wantRefused(t, impl.ParseByte, text)
	}
}

// TestTextsThatPrintTooLong: without blanks a text may be short enough, and that of Print not.
func TestTextsThatPrintTooLong(t *testing.T) {
	for _, size := range []int{impl.MaxProgram, impl.MaxProgram + 1, impl.MaxProgram + 100} {
		e := longBody(t, size)
		text := strings.ReplaceAll(strings.ReplaceAll(rawSay(e), ` "`, `"`), `" (`, `"(`)
		if len(text) > impl.MaxProgram {
			t.Fatal("the test's own text:", len(text))
		}
		if size == impl.MaxProgram {
			wantParsed(t, text, bodyOnly(e))
			continue
		}
		wantRefusedAt(t, impl.ParseLong, 0, text)
		wantRefusedAt(t, impl.ParseLong, 0, " "+text+"\n")
		wantRefusedAt(t, impl.ParseForm, len(text)+1, text+" )")
	}
	// Of just MaxProgram bytes without a line's end: that of Print has one more.
	text := strings.TrimSuffix(rawPrint(bodyOnly(longBody(t, impl.MaxProgram+1))), "\n")
	wantRefusedAt(t, impl.ParseLong, 0, text)
	wantRefusedAt(t, impl.ParseLong, 0, text+"\n")
}

// A reading goes through tokens by the document's tables alone: it keeps all ways in which what was read may go on.
// With limits it takes just what is within them, else whatever has a form. Where it comes to an end tells what the parser must:
// a token that both readings refuse can't stand for its form, one that only the first refuses can't for a limit alone.
type reading struct {
	tokens []impl.Token
	limits bool
}

// A mark is something that must come: a token of a class, or what has rules. count and depth are for the limits.
type mark struct {
	name  string
	count int
	depth int
}

// A way is what must come yet, the next one at the end, and how many parts were begun.
type way struct {
	todo  []mark
	parts int
}

func marksOf(text string, depth int) []mark {
	var list []mark
	for _, name := range strings.Fields(text) {
		list = append(list, mark{name: name, depth: depth})
	}
	return list
}

var bracketForms = []string{
	"( E E )", "( fn name E )", "( let name E E )", "( rec name other E E )", "( if E E E )", "( pair E E )", "( fst E )", "( snd E )", "( ref E )",
	"( read E )", "( write E E )", "( great E kids )", "( match E arms )", "( raise E )", "( try E name E )", "( add E E )", "( sub E E )", "( mul E E )",
	"( less E E )", "( same E E )", "( cat E E )", "( len E )", "( print E )", "( draw E )", "( get E )", "( put E E )",
}

// rules answers all that m may be at the token i, so many parts being begun; false, if it is a class of tokens.
func (r reading) rules(m mark, i int, parts int) ([][]mark, bool) {
	more := func(limit int) bool { return !r.limits || m.count < limit }
	next := mark{name: m.name, count: m.count + 1, depth: m.depth}
	var list [][]mark
	switch m.name {
	case "source":
		list = append(list, marksOf("nodata E end", 1))
		if more(impl.MaxDatas) {
			list = append(list, append(marksOf("( data newdata vars cons )", 1), next))
		}
	case "cons":
		if m.count > 0 {
			list = append(list, nil)
		}
		if more(impl.MaxCons) {
			list = append(list, append(marksOf("( newcon fields )", 1), next))
		}
	case "fields":
		list = append(list, nil)
		if more(impl.MaxFields) {
			list = append(list, append(marksOf("T", 1), next))
		}
	case "T":
		if !r.limits || m.depth <= impl.MaxDepth {
			list = append(list, marksOf("type0", 0), marksOf("( type1 T )", m.depth+1), marksOf("( type2 T T )", m.depth+1))
		}
	case "E", "body":
		if r.limits && (m.depth > impl.MaxDeep || parts >= impl.MaxNodes) {
			break
		}
		if !r.is(i, impl.TokOpen) {
			return [][]mark{{{name: map[string]string{"E": "lone", "body": "lonebody"}[m.name]}}}, true
		}
		for _, form := range bracketForms {
			list = append(list, marksOf(form, m.depth+1))
		}
	case "kids":
		list = append(list, nil)
		if more(impl.MaxFields - 1) { // the first one stands in the form
			list = append(list, append(marksOf("E", m.depth), next))
		}
	case "arms":
		if m.count > 0 {
			list = append(list, nil)
		}
		if more(impl.MaxCons + 1) {
			list = append(list, append(marksOf("( great avars body )", m.depth), next), append(marksOf("( _ E )", m.depth), next))
		}
	case "avars":
		list = append(list, nil)
		if more(impl.MaxFields) {
			list = append(list, append(marksOf("avar", 0), next))
		}
	default:
		return nil, false
	}
	return list, true
}

func (r reading) word(i int) string {
	if i >= 0 && i < len(r.tokens) && r.tokens[i].Kind == impl.TokWord {
		return string(r.tokens[i].Text)
	}
	return ""
}

func (r reading) is(i int, kind int) bool {
	return i < len(r.tokens) && r.tokens[i].Kind == kind
}

func (r reading) name(i int) bool {
	return rawName([]byte(r.word(i)))
}

// datasAhead are the names and the Vars of all datas that were begun ahead of the token i.
func (r reading) datasAhead(i int) ([]string, []int) {
	var names []string
	var vars []int
	for k := 2; k+1 < i; k++ {
		if r.word(k-1) == "data" && r.is(k-2, impl.TokOpen) {
			names, vars = append(names, r.word(k)), append(vars, r.tokens[k+1].N)
		}
	}
	return names, vars
}

// typeArgs is how many Args a type has that the token i names; -1: none.
func (r reading) typeArgs(i int) int {
	names, vars := r.datasAhead(i)
	word := r.word(i)
	if at := slices.Index(names, word); at >= 0 && word != "" {
		return vars[at]
	}
	if varForm.MatchString(word) && int(word[1]-'0') < vars[len(vars)-1] {
		return 0
	}
	if args, ok := map[string]int{"unit": 0, "int": 0, "text": 0, "ref": 1, "pair": 2, "fun": 2}[word]; ok {
		return args
	}
	return -1
}

// fits says whether the token i is of the class.
func (r reading) fits(class string, i int) bool {
	word := r.word(i)
	lone := func() bool {
		return r.is(i, impl.TokInt) || r.is(i, impl.TokLit) || word == "unit" || word == "tick" || rawGreat([]byte(word))
	}
	switch class {
	case "(":
		return r.is(i, impl.TokOpen)
	case ")":
		return r.is(i, impl.TokClose)
	case "end":
		return i == len(r.tokens)
	case "lone":
		return lone() || r.name(i)
	case "lonebody":
		return lone() || r.name(i) && r.is(i+1, impl.TokClose)
	case "name":
		return r.name(i)
	case "other":
		return r.name(i) && word != r.word(i-1)
	case "avar":
		fresh := true
		for k := i - 1; r.name(k); k-- {
			fresh = fresh && word != r.word(k)
		}
		return r.name(i) && !r.is(i+1, impl.TokClose) && fresh
	case "great":
		return rawGreat([]byte(word))
	case "newdata":
		names, _ := r.datasAhead(i)
		return r.name(i) && !slices.Contains(names, word)
	case "newcon":
		fresh := true
		for k := range i {
			fresh = fresh && word != r.word(k)
		}
		return rawGreat([]byte(word)) && fresh
	case "vars":
		return r.is(i, impl.TokInt) && r.tokens[i].N >= 0 && r.tokens[i].N <= 2
	case "type0", "type1", "type2":
		return r.typeArgs(i) == int(class[4]-'0')
	}
	return word == class
}

// step answers all ways that go on behind the token i.
func (r reading) step(ways []way, i int) []way {
	var then []way
	for len(ways) > 0 {
		w := ways[len(ways)-1]
		ways = ways[:len(ways)-1]
		last := len(w.todo) - 1
		m, rest := w.todo[last], w.todo[:last:last]
		if m.name == "nodata" {
			if !(r.is(i, impl.TokOpen) && r.word(i+1) == "data") {
				ways = append(ways, way{rest, w.parts})
			}
			continue
		}
		choices, ok := r.rules(m, i, w.parts)
		if !ok && r.fits(m.name, i) {
			then = append(then, way{rest, w.parts})
		}
		if m.name == "E" || m.name == "body" {
			w.parts++
		}
		for _, choice := range choices {
			todo := slices.Clone(rest)
			for k := range choice {
				todo = append(todo, choice[len(choice)-1-k])
			}
			ways = append(ways, way{todo, w.parts})
		}
	}
	return then
}

// stop answers the token at which no way goes on: how many there are, where the end is wrong; one more, where all is well.
func (r reading) stop() int {
	ways := []way{{todo: []mark{{name: "source"}}}}
	for i := range len(r.tokens) + 1 {
		ways = r.step(ways, i)
		if len(ways) == 0 {
			return i
		}
	}
	return len(r.tokens) + 1
}

// wantAsRead holds Parse against both readings; it answers the code and the number of the token that is refused.
// No field may be too large, and no text too long.
func wantAsRead(t *testing.T, text string) (int, int) {
	t.Helper()
	list, bad := rawLex(text)
	if bad >= 0 {
		t.Fatalf("the test's own text: %s", text)
	}
	form, both := reading{list, false}.stop(), reading{list, true}.stop()
	code, at := impl.ParseWell, 0
	if both <= len(list) {
		code, at = impl.ParseForm, len(text)
		if both < form {
			code = impl.ParseLong
		}
		if both < len(list) {
			at = list[both].At
		}
	}
	s, gotCode, gotAt := impl.Parse([]byte(text))
	if gotCode != code || gotAt != at {
		t.Fatalf("%s: %d at %d, not %d at %d", text, gotCode, gotAt, code, at)
	}
	if code == impl.ParseWell {
		wantTokensOf(t, text, list, s)
	} else if !isZeroSource(s) {
		t.Fatalf("%s: %v beside a code", text, s)
	}
	return code, both
}

// wantTokensOf: what was parsed prints the same tokens, and comes back.
func wantTokensOf(t *testing.T, text string, list []impl.Token, s impl.Source) {
	t.Helper()
	printed, ok := impl.Print(s)
	again, _ := rawLex(string(printed))
	if !ok || !rawSourceOk(s) || !slices.EqualFunc(list, again, alikeToken) {
		t.Fatalf("%s: printed as %s", text, printed)
	}
	wantParsed(t, string(printed), s)
}

// growAll holds Parse against the readings at text, and at all that comes of putting up to size words behind it.
// Where a token is refused that has another one behind it, whatever comes behind that changes nothing.
func growAll(t *testing.T, text string, words []string, size int, end string, codes map[int]int) {
	t.Helper()
	code, refused := wantAsRead(t, text)
	codes[code]++
	if end != "" {
		code, _ = wantAsRead(t, text+end)
		codes[code]++
	}
	list, _ := rawLex(text)
	if size == 0 || refused+1 < len(list) {
		return
	}
	for _, word := range words {
		growAll(t, text+" "+word, words, size-1, end, codes)
	}
}

func TestEveryShortListOfTokens(t *testing.T) {
	codes := map[int]int{}
	for _, c := range []struct {
		words string
		size  int
	}{
		{"( ) x A 1", 6},
		{"( ) x A fn tick data", 5},
		{`( ) x A 1 _ '0 unit rec f match try "" int d`, 4},
		{"( ) x A match _", 6},
		{"( ) data d 0 1 A", 6},
	} {
		growAll(t, "", strings.Fields(c.words), c.size, "", codes)
	}
	if codes[impl.ParseWell] < 200 || codes[impl.ParseForm] < 3000 {
		t.Error("the test's own texts:", codes)
	}
}

// TestEveryEndOfAFew: behind a beginning come all short lists of tokens.
func TestEveryEndOfAFew(t *testing.T) {
	codes := map[int]int{}
	for _, c := range []struct {
		begin, words string
		size         int
		end          string
	}{
		{"( match x ( A", "( ) x y A 1", 5, " ) )"},
		{"( match x ( A x y", "( ) x z 1 _", 5, ""},
		{"( match x ( A x y z", "( ) x z v A", 4, ") )"},
		{"( match x ( _", "( ) x y A 1 _", 4, " )"},
		{"( match x ( A 1 ) ( B 1 ) ( C 1 ) ( D 1 ) ( E 1 )", "( ) x A _", 5, ")"},
		{"( Some 1 2", "( ) x 1 fn A", 4, ""},
		{"( rec f", "( ) x f 1", 4, ""},
		{"( data d", "( ) 0 1 A int", 5, ") ) 1"},
		{"( data d 1 ( A", "( ) '0 '1 d int", 4, ") ) 1"},
		{"( data d 2 ( A int int", "( ) '0 '1 d ref", 5, ") ) 1"},
		{"( data d 0 ( A ) ) ( data e 1 ( B", "( ) d e '0 pair", 5, ") ) 1"},
		{"( data d 0 ( A ) ( B ) ( C ) ( D )", "( ) E A int", 5, ") 1"},
		{"( data a 0 ( A ) ) ( data b 0 ( B ) ) ( data c 0 ( C ) ) ( data d 0 ( D ) ) ( data e 0 ( E ) )", "( ) data f 0 F", 6, " 1"},
	} {
		growAll(t, c.begin, strings.Fields(c.words), c.size, c.end, codes)
	}
	if codes[impl.ParseWell] < 100 || codes[impl.ParseForm] < 3000 || codes[impl.ParseLong] < 300 {
		t.Error("the test's own texts:", codes)
	}
}

var someNames = []string{"x", "y", "f", "abcdefgh", "z9", "fnn", "lst"}

var someGreats = []string{"A", "Nil", "Cons", "Abcdefgh", "Z9"}

func pick[T any](w *walk, list []T) T {
	return list[w.below(len(list))]
}

// someField is a type over datas, the last of which it stands in.
func (w *walk) someField(depth int, datas []impl.Data) impl.Ty {
	if depth <= 1 || w.below(3) == 0 {
		if vars := datas[len(datas)-1].Vars; vars > 0 && w.below(2) == 0 {
			return tyVar(w.below(vars))
		}
		return tyOf(w.below(3))
	}
	n := w.below(len(datas))
	t := []impl.Ty{tyOf(impl.TyPair), tyOf(impl.TyFun), tyOf(impl.TyRef), tyData(n)}[w.below(4)]
	for range []int{2, 2, 1, datas[n].Vars}[t.Kind-impl.TyPair] {
		t.Args = append(t.Args, w.someField(depth-1, datas))
	}
	return t
}

// someDatas are DatasOk.
func (w *walk) someDatas() []impl.Data {
	var datas []impl.Data
	for i := range w.below(impl.MaxDatas + 1) {
		datas = append(datas, dataOf(fmt.Sprint(pick(w, []string{"d", "list", "x"}), i), w.below(3)))
		for k := range 1 + w.below(impl.MaxCons) {
			c := conOf(fmt.Sprintf("%s%d%d", pick(w, []string{"C", "Nil", "X"}), i, k))
			for range w.below(impl.MaxFields + 1) {
				c.Fields = append(c.Fields, w.someField(1+w.below(4), datas))
			}
			datas[i].Cons = append(datas[i].Cons, c)
		}
	}
	return datas
}

// someExpr is an expression of at most that depth, but that it may have too many parts.
func (w *walk) someExpr(depth int) impl.Expr {
	e := impl.Expr{Kind: w.below(impl.ExCall + 1)}
	if depth <= 1 || w.below(6) == 0 {
		e.Kind = pick(w, []int{impl.ExUnit, impl.ExInt, impl.ExText, impl.ExVar, impl.ExCon, impl.ExCall})
	}
	row := rawRows[e.Kind]
	e.N = w.below(row.lastN + 1)
	if e.Kind == impl.ExCall && depth <= 1 {
		e.N = impl.CapTick
	}
	least, most := rawKidsOf(e)
	if depth > 1 {
		least += w.below(most - least + 1)
	}
	for range least {
		e.Kids = append(e.Kids, w.someExpr(depth-1))
	}
	for _, field := range strings.Fields(row.names) {
		switch field {
		case "N":
			e.N = pick(w, []int{0, 1, -1, 42, leastWhole, mostWhole, w.below(1000)})
		case "Lit":
			e.Lit = []byte(pick(w, []string{"", "a", "(fn x", " ", "abcdefghijklmnopqrst", "'0"}))
		case "Name":
			e.Name = []byte(pick(w, someNames))
		case "Great":
			e.Name = []byte(pick(w, someGreats))
		case "Arg":
			for len(e.Arg) == 0 || sameText(e.Arg, e.Name) {
				e.Arg = []byte(pick(w, someNames))
			}
		case "Arms":
			for range 1 + w.below(impl.MaxCons+1) {
				e.Arms = append(e.Arms, w.someArm(depth-1))
			}
		}
	}
	return e
}

func (w *walk) someArm(depth int) impl.Arm {
	if w.below(4) == 0 {
		return armOf("", "", w.someExpr(depth))
	}
	begin, count := w.below(len(someNames)), w.below(impl.MaxFields+1)
	names := slices.Concat(someNames, someNames)[begin : begin+count]
	return armOf(pick(w, someGreats), strings.Join(names, " "), w.someExpr(depth))
}

// someSource is SourceOk; where a constructor without Kids is applied, it does not come back from its text.
func (w *walk) someSource(depth int) impl.Source {
	for {
		s := impl.Source{Datas: w.someDatas(), Body: w.someExpr(1 + w.below(depth))}
		if rawExprOk(s.Body) && len(rawPrint(s)) <= impl.MaxProgram {
			return s
		}
	}
}

func TestManySourcesComeBack(t *testing.T) {
	w := &walk{state: 52}
	back, twofold := 0, 0
	for range 4000 {
		s := w.someSource(9)
		if rawTwofold(s.Body) {
			wantTwofold(t, s, rawPrint(s))
			twofold++
			continue
		}
		wantSource(t, s, rawPrint(s))
		if impl.Nodes(s.Body) != rawNodes(s.Body) {
			t.Fatalf("%s: %d parts", rawPrint(s), impl.Nodes(s.Body))
		}
		back++
	}
	if back < 2000 || twofold < 20 {
		t.Errorf("the test's own sources: %d come back, %d do not", back, twofold)
	}
}

// harmed is s with one field of one part changed, most often to what may not be.
func (w *walk) harmed(s impl.Source) impl.Source {
	copied, _, _ := impl.Parse([]byte(rawPrint(s)))
	e := &copied.Body
	for parts := len(e.Kids) + len(e.Arms); parts > 0 && w.below(4) > 0; parts = len(e.Kids) + len(e.Arms) {
		if i := w.below(parts); i < len(e.Kids) {
			e = &e.Kids[i]
		} else {
			e = &e.Arms[i-len(e.Kids)].Body
		}
	}
	word := []byte(pick(w, []string{"", "x", "f", "A", "Nil", "fn", "_", "abcdefghi", "aB", "a b"}))
	switch w.below(9) {
	case 0:
		e.Kind = w.below(23) - 1
	case 1:
		e.N = pick(w, []int{-1, 0, 1, 2, 5, 6, 7, mostWhole, mostWhole + 1, leastWhole - 1})
	case 2:
		e.Name = word
	case 3:
		e.Arg = word
	case 4:
		e.Lit = word
	case 5:
		e.Kids = append(e.Kids, exInt(1))
	case 6:
		e.Kids = e.Kids[:w.below(len(e.Kids)+1)]
	case 7:
		e.Arms = append(e.Arms, armOf(string(word), pick(w, []string{"", "x", "x y f", "x x", "x y f g", "A"}), exInt(1)))
	case 8:
		e.Arms = e.Arms[:w.below(len(e.Arms)+1)]
	}
	return copied
}

func TestManySourcesThatAreHarmed(t *testing.T) {
	w := &walk{state: 53}
	ok, refused := 0, 0
	for range 12000 {
		s := w.harmed(w.someSource(6))
		nodes, all := 0, false
		if rawExprOk(s.Body) {
			nodes, all = rawNodes(s.Body), rawSourceOk(s)
		}
		if impl.Nodes(s.Body) != nodes || impl.SourceOk(s) != all {
			t.Fatalf("%v: %d parts, %v, not %d, %v", s, impl.Nodes(s.Body), !all, nodes, all)
		}
		if text, printed := impl.Print(s); printed != all || (len(text) > 0) != all || all && string(text) != rawPrint(s) {
			t.Fatalf("%v: printed as %s, %v", s, text, printed)
		}
		if all {
			ok++
		} else {
			refused++
		}
	}
	if ok < 1000 || refused < 1000 {
		t.Errorf("the test's own sources: %d ok, %d refused", ok, refused)
	}
}

// mutated answers list with a few tokens gone, doubled, swapped, or put in.
func (w *walk) mutated(list []string) []string {
	list = slices.Clone(list)
	for range 1 + w.below(3) {
		at, other := w.below(len(list)), w.below(len(list))
		word := pick(w, strings.Fields("( ) ( ) x y f A Nil 1 0 2 \"a\" _ '0 '1 fn let rec match try data unit tick int ref pair add put d0 list1"))
		switch w.below(6) {
		case 0:
			list = slices.Delete(list, at, at+1)
		case 1:
			list[at], list[other] = list[other], list[at]
		case 2:
			list = slices.Insert(list, at, list[other])
		case 3:
			list = slices.Insert(list, at, word)
		case 4:
			list[at] = word
		case 5:
			list = list[:at]
		}
		if len(list) == 0 {
			return list
		}
	}
	return list
}

func wordsOf(text string) []string {
	list, _ := rawLex(text)
	var words []string
	for i, token := range list {
		end := len(text)
		if i+1 < len(list) {
			end = list[i+1].At
		}
		words = append(words, strings.Trim(text[token.At:end], " \n"))
	}
	return words
}

func TestManyTextsAgainstTheTables(t *testing.T) {
	w := &walk{state: 54}
	codes := map[int]int{}
	for range 6000 {
		s := w.someSource(5)
		words := wordsOf(rawPrint(s))
		text := strings.Join(w.mutated(words), pick(w, []string{" ", "\n", "  \n "}))
		if len(text) < impl.MaxProgram/2 {
			code, _ := wantAsRead(t, text)
			codes[code]++
		}
	}
	if codes[impl.ParseWell] < 150 || codes[impl.ParseForm] < 1000 || codes[impl.ParseLong] < 40 {
		t.Error("the test's own texts:", codes)
	}
}

// TestLargeTextsAgainstTheTables: bodies about MaxNodes and MaxDeep.
func TestLargeTextsAgainstTheTables(t *testing.T) {
	w := &walk{state: 55}
	codes := map[int]int{}
	for range 150 {
		text := partsText(impl.MaxNodes-4+w.below(4), rawSay(w.someExpr(3)))
		if w.below(2) == 0 {
			text = chained(impl.MaxDeep-3+w.below(3), rawSay(w.someExpr(4)))
		}
		if w.below(2) == 0 {
			text = strings.Join(w.mutated(wordsOf(text)), " ")
		}
		if len(text) < impl.MaxProgram-300 {
			code, _ := wantAsRead(t, text)
			codes[code]++
		}
	}
	if codes[impl.ParseWell] < 10 || codes[impl.ParseForm] < 10 || codes[impl.ParseLong] < 30 {
		t.Error("the test's own texts:", codes)
	}
}

func TestBlanksChangeNothingButPlaces(t *testing.T) {
	w := &walk{state: 56}
	texts := append(sampleTexts(), "", "(", ")", "x y", "(fn if 1)", "%", "(x -0)", "(Some 1 2 3 4)", "(match 1 (A x x 1))", "(match 1 (A x", `"a`)
	for range 300 {
		texts = append(texts, strings.Join(w.mutated(wordsOf(rawPrint(w.someSource(4)))), " "))
	}
	for _, text := range texts {
		plain, code, at := impl.Parse([]byte(text))
		for _, blanks := range []string{"", " ", "\n", " \n\n  ", strings.Repeat(" \n", 100)} {
			for _, behind := range []string{"", " ", "\n", "\n \n"} {
				want := at
				if code != impl.ParseWell {
					want += len(blanks)
				}
				if code != impl.ParseWell && at == len(text) {
					want += len(behind)
				}
				got, gotCode, gotAt := impl.Parse([]byte(blanks + text + behind))
				if gotCode != code || gotAt != want || !sameSource(got, plain) {
					t.Fatalf("%q between %q and %q: %d at %d, not %d at %d", text, blanks, behind, gotCode, gotAt, code, want)
				}
			}
		}
	}
}

// TestBlanksBetweenTokens: how many there are between two tokens, and none ahead of a bracket or a mark, changes nothing.
func TestBlanksBetweenTokens(t *testing.T) {
	w := &walk{state: 57}
	for range 300 {
		s := w.someSource(5)
		if rawTwofold(s.Body) {
			continue
		}
		text := rawPrint(s)
		tight := strings.Join(wordsOf(text), " ")
		for _, lone := range []string{"(", ")"} {
			tight = strings.ReplaceAll(strings.ReplaceAll(tight, " "+lone, lone), lone+" ", lone)
		}
		if !strings.Contains(text, `"`) {
			wantParsed(t, tight, s)
		}
		if wide := strings.Join(wordsOf(text), "\n \n"); len(wide) <= impl.MaxProgram {
			wantParsed(t, wide, s)
		}
	}
}

// What fills the room behind the lists of sources: none of it may be, so that a read shows, too.
var (
	spareExpr = impl.Expr{Kind: 77, N: spareWord}
	spareArm  = impl.Arm{Con: []byte{spareByte}}
	spareCon  = impl.Con{Name: []byte{spareByte}}
	spareData = impl.Data{Name: []byte{spareByte}, Vars: spareWord}
	spareText = []byte{spareByte}
)

// roomyExpr answers e in memory of its own, with filled room behind each of its lists.
func roomyExpr(e impl.Expr) impl.Expr {
	e.Name, e.Arg, e.Lit = roomy(string(e.Name)), roomy(string(e.Arg)), roomy(string(e.Lit))
	e.Kids, e.Arms = withSpare(e.Kids, spareExpr), withSpare(e.Arms, spareArm)
	for i := range e.Kids {
		e.Kids[i] = roomyExpr(e.Kids[i])
	}
	for i, a := range e.Arms {
		vars := withSpare(a.Vars, spareText)
		for k := range vars {
			vars[k] = roomy(string(vars[k]))
		}
		e.Arms[i] = impl.Arm{Con: roomy(string(a.Con)), Vars: vars, Body: roomyExpr(a.Body)}
	}
	return e
}

func roomySource(s impl.Source) impl.Source {
	datas := withSpare(s.Datas, spareData)
	for i := range datas {
		cons := withSpare(datas[i].Cons, spareCon)
		for k, c := range cons {
			cons[k] = impl.Con{Name: roomy(string(c.Name)), Fields: roomyTys(c.Fields)}
		}
		datas[i].Name, datas[i].Cons = roomy(string(datas[i].Name)), cons
	}
	return impl.Source{Datas: datas, Body: roomyExpr(s.Body)}
}

// A roll notes all places that lists have, the room behind them, too. It tells whether a list has one that was noted before.
type roll struct {
	places map[any]bool
	shared bool
	spoilt bool // whether room behind a list is not filled as it was
}

func enrol[T any](r *roll, list []T, isSpare func(T) bool) {
	whole := list[:cap(list)]
	for i := range whole {
		r.shared = r.shared || r.places[&whole[i]]
		r.places[&whole[i]] = true
		r.spoilt = r.spoilt || i >= len(list) && !isSpare(whole[i])
	}
}

func (r *roll) text(list []byte) {
	enrol(r, list, func(b byte) bool { return b == spareByte })
}

func (r *roll) ty(t impl.Ty) {
	enrol(r, t.Args, isSpareTy)
	for _, arg := range t.Args {
		r.ty(arg)
	}
}

func (r *roll) expr(e impl.Expr) {
	r.text(e.Name)
	r.text(e.Arg)
	r.text(e.Lit)
	enrol(r, e.Kids, func(kid impl.Expr) bool { return sameExpr(kid, spareExpr) })
	enrol(r, e.Arms, func(a impl.Arm) bool { return sameArm(a, spareArm) })
	for _, a := range e.Arms {
		r.text(a.Con)
		enrol(r, a.Vars, func(v []byte) bool { return sameText(v, spareText) })
		for _, v := range a.Vars {
			r.text(v)
		}
	}
	for _, part := range rawParts(e) {
		r.expr(part)
	}
}

func (r *roll) source(s impl.Source) {
	enrol(r, s.Datas, func(d impl.Data) bool { return sameData(d, spareData) })
	for _, d := range s.Datas {
		r.text(d.Name)
		enrol(r, d.Cons, func(c impl.Con) bool { return sameCon(c, spareCon) })
		for _, c := range d.Cons {
			r.text(c.Name)
			r.ty(impl.Ty{Args: c.Fields})
		}
	}
	r.expr(s.Body)
}

func (r *roll) tokens(list []impl.Token) {
	enrol(r, list, func(impl.Token) bool { return true })
	for _, token := range list {
		r.text(token.Text)
	}
}

func newRoll() *roll {
	return &roll{places: map[any]bool{}}
}

// spoil writes over all texts that can be reached by e.
func spoil(e impl.Expr) {
	scribble(e.Name)
	scribble(e.Arg)
	scribble(e.Lit)
	for _, a := range e.Arms {
		scribble(a.Con)
		for _, v := range a.Vars {
			scribble(v)
		}
	}
	for _, part := range rawParts(e) {
		spoil(part)
	}
}

// memorySources are sources that are SourceOk and some that are not.
func memorySources() []impl.Source {
	list := []impl.Source{{}, {Datas: withField(1, tyVar(0), tyData(3, tyInt)), Body: exInt(1)}, {Datas: manyDatas(impl.MaxDatas + 1)}}
	for _, c := range samples() {
		list = append(list, bodyOnly(c.e), bodyOnly(exOf(impl.ExFst, c.e)), bodyOnly(exOf(impl.ExFst, c.e, c.e)))
	}
	w := &walk{state: 58}
	for range 150 {
		s := w.someSource(6)
		list = append(list, s)
		if !rawTwofold(s.Body) {
			list = append(list, w.harmed(s))
		}
	}
	return list
}

func TestAskingChangesNoSource(t *testing.T) {
	for i, s := range memorySources() {
		arg := roomySource(s)
		plain, plainOk := impl.Print(s)
		text, ok := impl.Print(arg)
		if ok != plainOk || !sameText(text, plain) || impl.SourceOk(arg) != plainOk {
			t.Errorf("source %d: what lies behind a list was read", i)
		}
		if impl.DatasOk(arg.Datas) != impl.DatasOk(s.Datas) || impl.Nodes(arg.Body) != impl.Nodes(s.Body) {
			t.Errorf("source %d: what lies behind a list was read", i)
		}
		all := newRoll()
		all.source(arg)
		if all.spoilt || !sameSource(arg, s) {
			t.Errorf("source %d: the argument was changed", i)
		}
		all.text(text)
		if all.shared {
			t.Errorf("source %d: the text shares memory with it", i)
		}
		scribble(text)
		if again, _ := impl.Print(arg); !sameText(again, plain) {
			t.Errorf("source %d: an answer was kept", i)
		}
	}
}

func memoryTexts() []string {
	texts := append(sampleTexts(), "", " \n", "(", "(fn x", "%", "(fn if 1)", `("a" "b`, "(Some 1 2 3 4)", "(x x x)", "(match x (A x y z a 1))")
	w := &walk{state: 59}
	for range 100 {
		s := w.someSource(6)
		texts = append(texts, rawPrint(s), strings.Join(w.mutated(wordsOf(rawPrint(s))), " "))
	}
	return texts
}

func TestParseHasMemoryOfItsOwn(t *testing.T) {
	for _, text := range memoryTexts() {
		plain, plainCode, plainAt := impl.Parse([]byte(text))
		arg := roomy(text)
		got, code, at := impl.Parse(arg)
		if code != plainCode || at != plainAt || !sameSource(got, plain) {
			t.Errorf("%.100q: what lies behind it was read", text)
		}
		wantRoomy(t, text, arg, text)
		all := newRoll()
		all.text(arg)
		all.source(got)
		all.source(plain)
		if all.shared {
			t.Errorf("%.100q: lists that share memory", text)
		}
		scribble(arg)
		if !sameSource(got, plain) {
			t.Errorf("%.100q: the answer changes with the text", text)
		}
		spoil(got.Body)
		if again, _, _ := impl.Parse([]byte(text)); !sameSource(again, plain) {
			t.Errorf("%.100q: an answer was kept", text)
		}
	}
}

func TestLexHasMemoryOfItsOwn(t *testing.T) {
	for _, text := range memoryTexts() {
		plain, plainAt := impl.Lex([]byte(text))
		arg := roomy(text)
		got, at := impl.Lex(arg)
		if at != plainAt || !slices.EqualFunc(got, plain, sameToken) {
			t.Errorf("%.100q: what lies behind it was read", text)
		}
		wantRoomy(t, text, arg, text)
		all := newRoll()
		all.text(arg)
		all.tokens(got)
		all.tokens(plain)
		if all.shared {
			t.Errorf("%.100q: lists that share memory", text)
		}
		scribble(arg)
		if !slices.EqualFunc(got, plain, sameToken) {
			t.Errorf("%.100q: the answer changes with the text", text)
		}
		for _, token := range got {
			scribble(token.Text)
		}
		if again, _ := impl.Lex([]byte(text)); !slices.EqualFunc(again, plain, sameToken) {
			t.Errorf("%.100q: an answer was kept", text)
		}
	}
}

// TestTextsWithMoreBehindThem: a text that is a piece of a longer one ends where its length says.
func TestTextsWithMoreBehindThem(t *testing.T) {
	long := []byte(`(pair "ab" xyz) 12 "`)
	for _, c := range []struct {
		size, code, at int
	}{{0, impl.ParseForm, 0}, {1, impl.ParseForm, 1}, {5, impl.ParseForm, 5}, {7, impl.ParseByte, 6}, {9, impl.ParseByte, 6}, {10, impl.ParseForm, 10}, {13, impl.ParseForm, 13}, {15, impl.ParseWell, 0}, {16, impl.ParseWell, 0}, {17, impl.ParseForm, 16}, {20, impl.ParseByte, 19}} {
		if _, code, at := impl.Parse(long[:c.size]); code != c.code || at != c.at {
			t.Errorf("%s: %d at %d", long[:c.size], code, at)
		}
	}
}

func TestParsedByManyAtOnce(t *testing.T) {
	texts := memoryTexts()
	var all sync.WaitGroup
	wrong := make([]int, 8)
	for worker := range wrong {
		all.Go(func() {
			for _, text := range texts {
				s, code, _ := impl.Parse([]byte(text))
				printed, ok := impl.Print(s)
				if code == impl.ParseWell && (!ok || string(printed) != rawPrint(s)) {
					wrong[worker]++
				}
			}
		})
	}
	all.Wait()
	if !filled(wrong, 0) {
		t.Error("wrong answers:", wrong)
	}
}
