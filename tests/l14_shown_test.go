package tests

import (
	"bytes"
	"fmt"
	"math"
	"slices"
	"strconv"
	"strings"
	"testing"
	"time"

	"loop.example/g00293/impl"
)

func valOf(kind int, parts ...impl.Val) impl.Val {
	return impl.Val{Kind: kind, List: parts}
}

func valInt(n int) impl.Val {
	return impl.Val{Kind: impl.TyInt, N: n}
}

func valText(text string) impl.Val {
	return impl.Val{Kind: impl.TyText, Text: []byte(text)}
}

func valRef(n int) impl.Val {
	return impl.Val{Kind: impl.TyRef, N: n}
}

func valData(con int, fields ...impl.Val) impl.Val {
	return impl.Val{Kind: impl.TyData, N: con, List: fields}
}

func valPair(parts ...impl.Val) impl.Val {
	return valOf(impl.TyPair, parts...)
}

// rawValShown shows a value that is within so many refs, datas and pairs, with itself if it is one; all of it, however long.
func rawValShown(v impl.Val, cells []impl.Val, level int) string {
	switch v.Kind {
	case impl.TyUnit:
		return "()"
	case impl.TyInt:
		return strconv.Itoa(v.N)
	case impl.TyText:
		return `"` + string(v.Text) + `"`
	case impl.TyFun:
		return "fn"
	}
	if level > 8 {
		return ".."
	}
	ahead, parts := "", v.List
	switch v.Kind {
	case impl.TyData:
		ahead = "#" + strconv.Itoa(v.N)
	case impl.TyRef:
		ahead, parts = "ref", nil
		if v.N >= 0 && v.N < len(cells) {
			parts = []impl.Val{cells[v.N]}
		}
	}
	var texts []string
	for _, part := range parts {
		texts = append(texts, rawValShown(part, cells, level+1))
	}
	if len(parts) == 0 {
		return ahead
	}
	return ahead + "(" + strings.Join(texts, ", ") + ")"
}

// wantVal looks what is shown of a value; of text the first MaxBytes bytes.
func wantVal(t *testing.T, what string, v impl.Val, cells []impl.Val, text string) {
	t.Helper()
	want := text[:min(len(text), impl.MaxBytes)]
	if got := string(impl.ShowVal(v, cells)); got != want {
		t.Errorf("%s: %d bytes, not %d: %.300q\nnot %.300q", what, len(got), len(want), got, want)
	}
}

// everyByte is a text of all bytes that there are.
func everyByte() string {
	var list []byte
	for b := range 256 {
		list = append(list, byte(b))
	}
	return string(list)
}

func TestShowValOfEachKind(t *testing.T) {
	seven := []impl.Val{valInt(7)}
	for _, c := range []struct {
		v    impl.Val
		text string
	}{
		{impl.Val{}, "()"}, {valOf(impl.TyUnit), "()"}, {impl.Val{Kind: impl.TyUnit, N: 5, Text: []byte("x"), List: seven}, "()"},
		{valInt(0), "0"}, {valInt(-1), "-1"}, {valInt(10), "10"}, {valInt(-1000000), "-1000000"}, {impl.Val{Kind: impl.TyInt, N: 5, Text: []byte("x"), List: seven}, "5"},
		{valInt(math.MaxInt), "9223372036854775807"}, {valInt(math.MinInt), "-9223372036854775808"}, {valInt(greatestWrapped), "4611686018427387903"}, {valInt(leastWrapped), "-4611686018427387904"},
		{valText(""), `""`}, {valText("ab"), `"ab"`}, {valText(`"`), `"""`}, {valText(`a\n`), `"a\n"`}, {valText("\n\x00\xff"), "\"\n\x00\xff\""}, {valText(everyByte()), `"` + everyByte() + `"`},
		{valText(strings.Repeat("z", 61)), `"` + strings.Repeat("z", 61) + `"`}, {impl.Val{Kind: impl.TyText, N: 5, Text: []byte("x"), List: seven}, `"x"`},
		{valOf(impl.TyFun), "fn"}, {impl.Val{Kind: impl.TyFun, N: 5, Text: []byte("x"), List: seven}, "fn"},
		{valPair(), ""}, {valPair(valInt(1)), "(1)"}, {valPair(valInt(1), valInt(2)), "(1, 2)"}, {valPair(valInt(1), valText("a"), impl.Val{}), `(1, "a", ())`}, {impl.Val{Kind: impl.TyPair, N: 5, Text: []byte("x"), List: seven}, "(7)"},
		{valPair(valPair(), valPair()), "(, )"}, {valPair(valPair()), "()"}, {valPair(valPair(valInt(1), valInt(2)), valOf(impl.TyFun)), "((1, 2), fn)"}, {valPair(slices.Repeat(seven, 5)...), "(7, 7, 7, 7, 7)"},
		{valData(0), "#0"}, {valData(4), "#4"}, {valData(5), "#5"}, {valData(-1), "#-1"}, {valData(math.MaxInt), "#9223372036854775807"}, {valData(math.MinInt), "#-9223372036854775808"},
		{valData(1, valInt(3)), "#1(3)"}, {valData(1, valInt(3), valText(""), valData(0)), `#1(3, "", #0)`}, {valData(2, valInt(1), valInt(2), valInt(3), valInt(4), valInt(5)), "#2(1, 2, 3, 4, 5)"}, {impl.Val{Kind: impl.TyData, N: 5, Text: []byte("x"), List: seven}, "#5(7)"},
		{valRef(0), "ref"}, {impl.Val{Kind: impl.TyRef, N: 5, Text: []byte("x"), List: seven}, "ref"},
	} {
		wantVal(t, c.text, c.v, nil, c.text)
		if raw := rawValShown(c.v, nil, 1); raw != c.text {
			t.Errorf("the test's own way: %q, not %q", raw, c.text)
		}
	}
}

// TestShowValOfOtherKinds: a Kind that is none of these is shown as a pair.
func TestShowValOfOtherKinds(t *testing.T) {
	for _, kind := range []int{impl.TyVar, impl.TyVar + 1, 100, -1, -2, -impl.TyRef, math.MaxInt, math.MinInt, 1 << 32, impl.TyInt + 1<<32} {
		what := fmt.Sprint("kind ", kind)
		wantVal(t, what, valOf(kind), nil, "")
		wantVal(t, what, impl.Val{Kind: kind, N: 3, Text: []byte("x")}, []impl.Val{valInt(1), valInt(2), valInt(3), valInt(4)}, "")
		wantVal(t, what, valOf(kind, valInt(1), valText("b")), nil, `(1, "b")`)
		wantVal(t, what, valOf(kind, valInt(1), valInt(2), valOf(kind, valInt(3))), nil, "(1, 2, (3))")
		nested := valOf(kind)
		for range 12 {
			nested = valOf(kind, nested, valInt(1))
		}
		wantVal(t, what, nested, nil, strings.Repeat("(", 8)+".."+strings.Repeat(", 1)", 8))
	}
}

// TestShowValOfCells: those that are there, one behind the last, one ahead of the first, none at all.
func TestShowValOfCells(t *testing.T) {
	cells := []impl.Val{valInt(5), valText("b"), valPair(valRef(0), valRef(1)), valData(3, valInt(1), valRef(2)), impl.Val{}, valOf(impl.TyFun), valPair(), valRef(9)}
	for n, text := range map[int]string{
		0: "ref(5)", 1: `ref("b")`, 2: `ref((ref(5), ref("b")))`, 3: `ref(#3(1, ref((ref(5), ref("b")))))`, 4: "ref(())", 5: "ref(fn)", 6: "ref()", 7: "ref(ref)",
		8: "ref", 9: "ref", -1: "ref", -8: "ref", math.MaxInt: "ref", math.MinInt: "ref", 1 << 32: "ref",
	} {
		wantVal(t, fmt.Sprint("cell ", n), valRef(n), cells, text)
		wantVal(t, fmt.Sprint("cell ", n, " in a pair"), valPair(valRef(n), valInt(1)), cells, "("+text+", 1)")
		wantVal(t, fmt.Sprint("no cells, ", n), valRef(n), nil, "ref")
		wantVal(t, fmt.Sprint("a list in it, ", n), impl.Val{Kind: impl.TyRef, N: n, List: []impl.Val{valInt(99)}, Text: []byte("y")}, cells, text)
	}
	wantVal(t, "the last cell", valRef(1), cells[:2], `ref("b")`)
	wantVal(t, "one behind the last", valRef(2), cells[:2], "ref")
	// Numbers of others name no cells.
	wantVal(t, "an int, a data and a pair", valPair(valInt(0), valData(1), impl.Val{Kind: impl.TyPair, N: 1}), cells, "(0, #1, )")
}

// TestShowValOfRounds: cells that name each other, and themselves.
func TestShowValOfRounds(t *testing.T) {
	self := valRef(0)
	wantVal(t, "a cell of itself", self, []impl.Val{self}, strings.Repeat("ref(", 8)+".."+strings.Repeat(")", 8))
	cells := []impl.Val{valRef(1), valPair(valRef(0), valInt(7)), valData(2, valRef(2), valRef(1))}
	wantVal(t, "two of each other", valRef(0), cells, "ref(ref((ref(ref((ref(ref(..)), 7))), 7)))")
	wantVal(t, "the second one", valRef(1), cells, "ref((ref(ref((ref(ref((.., 7))), 7))), 7))")
	for n := range cells {
		wantVal(t, fmt.Sprint("cell ", n), valRef(n), cells, rawValShown(valRef(n), cells, 1))
		wantVal(t, fmt.Sprint("what cell ", n, " has"), cells[n], cells, rawValShown(cells[n], cells, 1))
	}
}

// TestShowValDeep: refs, datas and pairs within MaxShow of them are shown; all else wherever it is.
func TestShowValDeep(t *testing.T) {
	wraps := map[string]func(v impl.Val) (impl.Val, string, string){
		"pairs":        func(v impl.Val) (impl.Val, string, string) { return valPair(v, valInt(1)), "(", ", 1)" },
		"second parts": func(v impl.Val) (impl.Val, string, string) { return valPair(valInt(1), v), "(1, ", ")" },
		"lone parts":   func(v impl.Val) (impl.Val, string, string) { return valPair(v), "(", ")" },
		"datas":        func(v impl.Val) (impl.Val, string, string) { return valData(6, v), "#6(", ")" },
		"a kind of -9": func(v impl.Val) (impl.Val, string, string) { return valOf(-9, v), "(", ")" },
		"three of data": func(v impl.Val) (impl.Val, string, string) {
			return valData(1, valText("a"), v, valRef(0)), `#1("a", `, ", ref)"
		},
	}
	leaves := []struct {
		v     impl.Val
		text  string
		nests bool
	}{
		{impl.Val{}, "()", false}, {valInt(-5), "-5", false}, {valText("t"), `"t"`, false}, {valOf(impl.TyFun, valInt(1)), "fn", false},
		{valPair(), "", true}, {valPair(valInt(1), valInt(2)), "(1, 2)", true}, {valData(0), "#0", true}, {valData(3, valInt(1)), "#3(1)", true}, {valRef(5), "ref", true}, {valOf(99, valInt(1)), "(1)", true},
	}
	for name, wrap := range wraps {
		for _, leaf := range leaves {
			v, text := leaf.v, leaf.text
			for count := 1; count <= 7; count++ {
				var ahead, behind string
				v, ahead, behind = wrap(v)
				text = ahead + text + behind
				wantVal(t, fmt.Sprint(leaf.text, " in ", count, " ", name), v, nil, text)
			}
			v, ahead, behind := wrap(v)
			deepest := strings.Repeat(ahead, 8) + leaf.text + strings.Repeat(behind, 8)
			if leaf.nests {
				deepest = strings.Repeat(ahead, 8) + ".." + strings.Repeat(behind, 8)
			}
			if name == "three of data" {
				deepest = strings.Replace(deepest, ", ref)", ", ..)", 1)
			}
			wantVal(t, fmt.Sprint(leaf.text, " in 8 ", name), v, nil, deepest)
		}
	}
}

// deepVal is a value in so many pairs, datas and lists of one, in turns.
func deepVal(depth int) impl.Val {
	v := valInt(1)
	for i := range depth {
		v = valOf([]int{impl.TyPair, impl.TyData, -1}[i%3], v)
	}
	return v
}

// soon fails where do does not end within some seconds.
func soon(t *testing.T, what string, do func()) {
	t.Helper()
	done := make(chan bool)
	go func() {
		defer close(done)
		do()
	}()
	select {
	case <-done:
	case <-time.After(20 * time.Second):
		t.Fatalf("%s: no answer", what)
	}
}

// TestShowValOfFarTooMuch: so many parts in so many layers that no machine could go through all of it.
func TestShowValOfFarTooMuch(t *testing.T) {
	const many = 300000
	for name, c := range map[string]struct {
		leaf impl.Val
		wrap func(v impl.Val) impl.Val
	}{
		"pairs":         {valPair(), func(v impl.Val) impl.Val { return valPair(slices.Repeat([]impl.Val{v}, many)...) }},
		"datas":         {valData(0), func(v impl.Val) impl.Val { return valData(1, slices.Repeat([]impl.Val{v}, many)...) }},
		"units":         {impl.Val{}, func(v impl.Val) impl.Val { return valPair(slices.Repeat([]impl.Val{v}, many)...) }},
		"texts":         {valText(strings.Repeat("x", 1<<22)), func(v impl.Val) impl.Val { return valPair(slices.Repeat([]impl.Val{v}, many)...) }},
		"another kind":  {valOf(50), func(v impl.Val) impl.Val { return valOf(-50, slices.Repeat([]impl.Val{v}, many)...) }},
		"ends at first": {valText(""), func(v impl.Val) impl.Val { return valPair(append(slices.Repeat([]impl.Val{valPair()}, many), v)...) }},
		"ends at last": {valText(""), func(v impl.Val) impl.Val {
			return valPair(append([]impl.Val{v}, slices.Repeat([]impl.Val{valPair()}, many)...)...)
		}},
	} {
		v := c.leaf
		for range 9 {
			v = c.wrap(v)
		}
		soon(t, name, func() {
			if got := impl.ShowVal(v, nil); len(got) != impl.MaxBytes {
				t.Errorf("%s: %d bytes", name, len(got))
			}
		})
	}
	round := valPair(slices.Repeat([]impl.Val{valRef(0)}, many)...)
	soon(t, "a round of cells", func() {
		wantVal(t, "a round of cells", valRef(0), []impl.Val{round}, strings.Repeat("ref((", 4)+strings.Repeat(".., ", many))
	})
	soon(t, "parts that nobody shows", func() {
		wantVal(t, "a fun of many", valOf(impl.TyFun, round, round), nil, "fn")
		wantVal(t, "a unit of many", valOf(impl.TyUnit, round, round), nil, "()")
		wantVal(t, "a deep value", deepVal(1<<20), nil, rawValShown(deepVal(1<<20), nil, 1))
	})
}

// TestShowValCut: at most the first MaxBytes bytes, wherever that ends.
func TestShowValCut(t *testing.T) {
	cells := []impl.Val{valInt(-12345)}
	tail := valData(12, valInt(-678), valRef(0), valPair(valText("qr"), impl.Val{}), valOf(impl.TyFun), deepVal(9), valRef(1), valInt(math.MinInt), valPair())
	whole := rawValShown(valPair(valText(""), tail), cells, 1)
	cut := map[bool]int{}
	for pad := impl.MaxBytes - len(whole) - 5; pad < impl.MaxBytes+5; pad++ {
		v := valPair(valText(strings.Repeat("p", pad)), tail)
		text := rawValShown(v, cells, 1)
		wantVal(t, fmt.Sprint(len(text), " bytes"), v, cells, text)
		cut[len(text) > impl.MaxBytes]++
	}
	if cut[true] < 80 || cut[false] < 5 {
		t.Error("the test's own values:", cut)
	}
	for size := impl.MaxBytes - 4; size < impl.MaxBytes+4; size++ {
		wantVal(t, fmt.Sprint("a text of ", size, " bytes"), valText(strings.Repeat("a", size)), nil, `"`+strings.Repeat("a", size)+`"`)
	}
	ints := valPair(slices.Repeat([]impl.Val{valInt(123456)}, impl.MaxBytes/8)...)
	wantVal(t, "just MaxBytes bytes", ints, nil, rawValShown(ints, nil, 1))
	if got := impl.ShowVal(ints, nil); len(got) != impl.MaxBytes || !bytes.HasSuffix(got, []byte(", 123456)")) {
		t.Errorf("just MaxBytes bytes: %d, %.20q", len(got), got[len(got)-20:])
	}
	ints.List = append(ints.List, valInt(1))
	wantVal(t, "more than MaxBytes bytes", ints, nil, rawValShown(ints, nil, 1))
}

// someVal is a value of any kind, with parts that its kind has or does not.
func (w *walk) someVal(depth int) impl.Val {
	v := impl.Val{Kind: pick(w, []int{0, 1, 2, 3, 3, 3, 4, 5, 5, 6, 6, 6, 7, 8, -1, -5}), N: w.below(9) - 2}
	if w.below(10) == 0 {
		v.N = pick(w, []int{math.MinInt, math.MaxInt, 1000, -1000})
	}
	for range w.below(5) {
		v.Text = append(v.Text, byte(w.below(256)))
	}
	if depth > 1 {
		for range w.below(5) {
			v.List = append(v.List, w.someVal(depth-1-w.below(2)))
		}
	}
	return v
}

func (w *walk) someVals() []impl.Val {
	var list []impl.Val
	for range w.below(7) {
		list = append(list, w.someVal(1+w.below(3)))
	}
	return list
}

func TestManyDrawnVals(t *testing.T) {
	w := &walk{state: 141}
	deep, long := 0, 0
	for range 6000 {
		v, cells := w.someVal(1+w.below(11)), w.someVals()
		text := rawValShown(v, cells, 1)
		if strings.Contains(text, "..") {
			deep++
		}
		if len(text) > 200 {
			long++
		}
		wantVal(t, "a drawn value", v, cells, text)
	}
	if deep < 100 || long < 200 {
		t.Error("the test's own values:", deep, long)
	}
}
