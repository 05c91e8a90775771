package tests

import (
	"fmt"
	"math"
	"slices"
	"strconv"
	"strings"
	"testing"

	"loop.example/g00293/impl"
)

// opWords are the words of codeOf, by their ops.
var opWords = strings.Fields("unit int lit arg env self get set add sub mul less same cat len pair fst snd ref read write con case close call return jump if raise try done foreign")

// codeOf reads instructions that are parted by `;`: a word of opWords and what the op has, as "int 1; lit ab; case 0 4 6; return".
// A name and a colon ahead of one stand for its place: "try out; unit; done; return; out: raise"; "300*unit" is 300 of one.
func codeOf(text string) []impl.Ins {
	var lines []string
	places := map[string]string{}
	for line := range strings.SplitSeq(text, ";") {
		line = strings.TrimSpace(line)
		if name, rest, ok := strings.Cut(line, ":"); ok {
			places[name] = strconv.Itoa(len(lines))
			line = strings.TrimSpace(rest)
		}
		count := 1
		if times, rest, ok := strings.Cut(line, "*"); ok {
			count, _ = strconv.Atoi(times)
			line = rest
		}
		if line != "" {
			lines = append(lines, slices.Repeat([]string{line}, count)...)
		}
	}
	var code []impl.Ins
	for _, line := range lines {
		code = append(code, insOf(line, places))
	}
	return code
}

func insOf(line string, places map[string]string) impl.Ins {
	words := strings.Fields(line)
	n := impl.Ins{Op: slices.Index(opWords, words[0])}
	if n.Op == impl.InLit {
		n.Lit = []byte(strings.Join(words[1:], " "))
		return n
	}
	var numbers []int
	for _, word := range words[1:] {
		if place, ok := places[word]; ok {
			word = place
		}
		number, err := strconv.Atoi(word)
		if err != nil {
			panic("the test's own code: " + line)
		}
		numbers = append(numbers, number)
	}
	switch opHas(n.Op) {
	case "I", "A":
		n.A = numbers[0]
	case "AB":
		n.A, n.B = numbers[0], numbers[1]
	case "AT":
		n.A, n.To = numbers[0], numbers[1:]
	}
	return n
}

// sayState says a state that is Here: what is set, as digits; the stack; and the tries, To and Height each: `01|int text|7/0 9/1`.
func sayState(s impl.State) string {
	var set string
	var stack, tries []string
	for _, is := range s.Set {
		set += map[bool]string{false: "0", true: "1"}[is]
	}
	for _, ty := range s.Stack {
		stack = append(stack, rawText(ty))
	}
	for _, try := range s.Tries {
		tries = append(tries, fmt.Sprint(try.To, "/", try.Height))
	}
	return map[bool]string{false: "not here: "}[s.Here] + set + "|" + strings.Join(stack, " ") + "|" + strings.Join(tries, " ")
}

func sayStates(list []impl.State) []string {
	var said []string
	for _, s := range list {
		said = append(said, sayState(s))
	}
	return said
}

func wantStates(t *testing.T, what string, p impl.Program, n int, want ...string) {
	t.Helper()
	list, ok := impl.States(p, n)
	if said := sayStates(list); !ok || !slices.Equal(said, want) {
		t.Errorf("%s: %v, %q\nnot %q", what, ok, said, want)
	}
}

func wantNoStates(t *testing.T, what string, p impl.Program, n int) {
	t.Helper()
	if list, ok := impl.States(p, n); ok || len(list) > 0 {
		t.Errorf("%s: %v, %.300q", what, ok, sayStates(list))
	}
}

func wantSomeStates(t *testing.T, what string, p impl.Program, n int) {
	t.Helper()
	if list, ok := impl.States(p, n); !ok || len(list) != len(p.Blocks[n].Code) {
		t.Errorf("%s: %v, %d states of %d", what, ok, len(list), len(p.Blocks[n].Code))
	}
}

// sceneTypes are the Env of the block of a scene: what its code may push.
var sceneTypes = []impl.Ty{
	tyUnit, tyInt, tyText, tyOf(impl.TyPair, tyInt, tyText), tyOf(impl.TyPair, tyText, tyInt), tyOf(impl.TyPair, inRef(tyInt), tyData(0)), tyOf(impl.TyFun, tyInt, tyText), tyOf(impl.TyFun, tyInt, tyInt), tyOf(impl.TyFun, tyText, tyOf(impl.TyFun, tyInt, tyText)),
	inRef(tyInt), inRef(tyText), inRef(inRef(tyInt)), tyData(0), tyData(1), tyData(2), tyOf(impl.TyFun, tyData(0), tyData(1)),
}

// scene is a program whose block 1 has this code; blocks 2 and 3 can be closed, block 0 can't.
func scene(code string) impl.Program {
	return impl.Program{
		Layouts: []impl.Layout{{Cons: [][]impl.Ty{nil, {tyInt, tyText}, {tyData(0)}}}, {Cons: [][]impl.Ty{{tyUnit, tyInt, tyText}}}, {Cons: make([][]impl.Ty, impl.MaxCons)}},
		Blocks: []impl.Block{
			{Code: codeOf("unit; return")},
			{Env: sceneTypes, Arg: tyOf(impl.TyPair, tyInt, tyText), Res: inRef(tyText), Locals: []impl.Ty{tyInt, tyText, tyData(0)}, Code: codeOf(code)},
			{Env: []impl.Ty{tyInt, tyText}, Arg: tyInt, Res: tyText, Code: codeOf("lit; return")},
			{Arg: tyData(1), Res: tyData(2), Code: codeOf("con 2 0; return")},
		},
	}
}

// pushing is code that pushes types of the scene.
func pushing(types ...impl.Ty) string {
	var text string
	for _, ty := range types {
		text += fmt.Sprint("env ", slices.IndexFunc(sceneTypes, func(other impl.Ty) bool { return rawSame(other, ty) }), "; ")
	}
	return text
}

// An opRow is a line of the document's table with types put for its letters; pops as they were pushed, sets a local (-1: none).
type opRow struct {
	ins    string
	pops   []impl.Ty
	pushes []impl.Ty
	sets   int
}

// opRows are all that come behind alone, with all types of the scene.
func opRows() []opRow {
	var rows []opRow
	add := func(ins string, pushes []impl.Ty, pops ...impl.Ty) {
		rows = append(rows, opRow{ins, pops, pushes, -1})
	}
	one := func(ty impl.Ty) []impl.Ty { return []impl.Ty{ty} }
	b := scene("return").Blocks[1]
	add("unit", one(tyUnit))
	add("int -7", one(tyInt))
	add("lit ab", one(tyText))
	add("arg", one(b.Arg))
	add("self", one(tyOf(impl.TyFun, b.Arg, b.Res)))
	for i, ty := range b.Env {
		add(fmt.Sprint("env ", i), one(ty))
	}
	for i, ty := range b.Locals {
		rows = append(rows, opRow{fmt.Sprint("set ", i), one(ty), nil, i})
	}
	for _, word := range []string{"add", "sub", "mul", "less", "same"} {
		add(word, one(tyInt), tyInt, tyInt)
	}
	add("cat", one(tyText), tyText, tyText)
	add("len", one(tyInt), tyText)
	add("con 0 0", one(tyData(0)))
	add("con 0 1", one(tyData(0)), tyInt, tyText)
	add("con 0 2", one(tyData(0)), tyData(0))
	add("con 1 0", one(tyData(1)), tyUnit, tyInt, tyText)
	add("con 2 4", one(tyData(2)))
	add("close 2", one(tyOf(impl.TyFun, tyInt, tyText)), tyInt, tyText)
	add("close 3", one(tyOf(impl.TyFun, tyData(1), tyData(2))))
	add("foreign 0", one(tyUnit), tyText)
	add("foreign 1", one(tyInt))
	add("foreign 2", one(tyInt), tyInt)
	add("foreign 3", one(tyInt), tyInt)
	add("foreign 4", one(tyUnit), tyInt, tyInt)
	for _, a := range sceneTypes {
		add("ref", one(inRef(a)), a)
		for _, b := range sceneTypes {
			add("pair", one(tyOf(impl.TyPair, a, b)), a, b)
		}
		switch a.Kind {
		case impl.TyPair:
			add("fst", one(a.Args[0]), a)
			add("snd", one(a.Args[1]), a)
		case impl.TyRef:
			add("read", one(a.Args[0]), a)
			add("write", one(tyUnit), a, a.Args[0])
		case impl.TyFun:
			add("call", one(a.Args[1]), a, a.Args[0])
		}
	}
	return rows
}

// firstRows are a row for each instruction.
func firstRows() []opRow {
	var rows []opRow
	for _, row := range opRows() {
		if !slices.ContainsFunc(rows, func(other opRow) bool { return other.ins == row.ins }) {
			rows = append(rows, row)
		}
	}
	return rows
}

// A track tells the states of code that comes behind alone, as far as the test itself says what each instruction does.
type track struct {
	text   string
	now    impl.State
	states []string
}

func newTrack() *track {
	return &track{now: impl.State{Set: make([]bool, 3), Here: true}}
}

func (k *track) step(ins string, pops int, pushes ...impl.Ty) {
	k.text += ins + "; "
	k.states = append(k.states, sayState(k.now))
	left := len(k.now.Stack) - pops
	k.now.Stack = slices.Concat(k.now.Stack[:left], pushes)
}

func (k *track) push(types ...impl.Ty) {
	for _, ty := range types {
		k.step(strings.TrimSuffix(pushing(ty), "; "), 0, ty)
	}
}

func (k *track) row(row opRow) {
	k.step(row.ins, len(row.pops), row.pushes...)
	if row.sets >= 0 {
		k.now.Set = slices.Clone(k.now.Set)
		k.now.Set[row.sets] = true
	}
}

// end comes nowhere, whatever is on the stack, if there is room on it.
func (k *track) end() {
	k.step("int 0", 0, tyInt)
	k.step("raise", 1)
}

func TestLimitsOfTheChecker(t *testing.T) {
	if impl.MaxStack != 300 {
		t.Error("MaxStack:", impl.MaxStack)
	}
}

// TestStatesOfEveryRow: what each op pops and pushes, with whatever lies below.
func TestStatesOfEveryRow(t *testing.T) {
	for _, row := range opRows() {
		for _, below := range [][]impl.Ty{nil, {tyText}, {tyInt, tyInt, tyInt}, {tyData(0), tyOf(impl.TyPair, tyInt, tyText)}} {
			k := newTrack()
			k.push(below...)
			k.push(row.pops...)
			k.row(row)
			k.end()
			wantStates(t, k.text, scene(k.text), 1, k.states...)
		}
	}
}

// eachStack calls f with all stacks of that many types of the scene.
func eachStack(size int, f func(types []impl.Ty)) {
	var places []byte
	for i := range sceneTypes {
		places = append(places, byte(i))
	}
	eachBytes(size, places, func(which []byte) {
		var types []impl.Ty
		for _, i := range which {
			types = append(types, sceneTypes[i])
		}
		f(types)
	})
}

// TestOtherTypesOnTop: of all stacks just those of the rows are taken, also where more lies below.
func TestOtherTypesOnTop(t *testing.T) {
	rows := opRows()
	taken, refused := 0, 0
	for _, first := range firstRows() {
		eachStack(len(first.pops), func(types []impl.Ty) {
			ok := slices.ContainsFunc(rows, func(row opRow) bool {
				return row.ins == first.ins && slices.EqualFunc(row.pops, types, rawSame)
			})
			text := pushing(types...) + first.ins + "; int 0; raise"
			if _, got := impl.States(scene(text), 1); got != ok {
				t.Errorf("%s: %v", text, got)
			}
			if ok {
				taken++
			} else {
				refused++
				wantNoStates(t, "with more below: "+text, scene(pushing(first.pops...)+text), 1)
			}
		})
	}
	if taken < 300 || refused < 5000 {
		t.Errorf("the test's own stacks: %d taken, %d refused", taken, refused)
	}
}

// TestTooFewOnTheStack: of what an op pops the first ones lack.
func TestTooFewOnTheStack(t *testing.T) {
	for _, row := range opRows() {
		for lacks := 1; lacks <= len(row.pops); lacks++ {
			text := pushing(row.pops[lacks:]...) + row.ins + "; int 0; raise"
			wantNoStates(t, text, scene(text), 1)
		}
	}
	for _, text := range []string{"add", "if end; int 0; raise; end: int 0; raise", "case 0 a b c; a: int 0; raise; b: int 0; raise; c: int 0; raise", "return", "raise"} {
		wantNoStates(t, text, scene(text), 1)
		wantNoStates(t, "behind something: "+text, scene("unit; set 0; "+text), 1)
	}
}

// TestStackBelowATry: what was pushed ahead of the last open try is not popped, however much there is.
func TestStackBelowATry(t *testing.T) {
	for _, row := range firstRows() {
		for above := range len(row.pops) + 1 {
			below, top := row.pops[:len(row.pops)-above], row.pops[len(row.pops)-above:]
			k := newTrack()
			k.push(tyText, tyText)
			k.push(below...)
			height, place := 2+len(below), 2+len(row.pops)+4
			k.step("try out", 0)
			k.now.Tries = []impl.Try{{To: place, Height: height}}
			k.push(top...)
			stands := slices.Clone(k.now.Stack)
			k.row(row)
			k.end()
			k.now.Stack = append(slices.Clone(stands[:height]), tyInt)
			k.now.Set, k.now.Tries = make([]bool, 3), nil
			k.step("out: raise", 1)
			if above == len(row.pops) {
				wantStates(t, k.text, scene(k.text), 1, k.states...)
			} else {
				wantNoStates(t, k.text, scene(k.text), 1)
			}
			// Once it is open no more, all may be popped.
			start := pushing(tyText, tyText) + pushing(below...)
			rest := row.ins + "; int 0; raise; "
			wantSomeStates(t, "done: "+row.ins, scene(start+"try out; "+pushing(top...)+"done; "+rest+"out: raise"), 1)
			// The one outside is the last one again, where that inside is open no more.
			outer := scene(start + "try out; try in; " + pushing(top...) + "done; " + rest + "in: raise; out: raise")
			if above == len(row.pops) {
				wantSomeStates(t, "within another: "+row.ins, outer, 1)
			} else {
				wantNoStates(t, "within another: "+row.ins, outer, 1)
			}
			wantSomeStates(t, "both done: "+row.ins, scene(start+"try out; try in; "+pushing(top...)+"done; done; "+rest+"in: raise; out: raise"), 1)
		}
	}
}

// TestOpsThatEndBelowATry: those that come elsewhere, or nowhere, pop above the last open try, too.
func TestOpsThatEndBelowATry(t *testing.T) {
	for _, c := range []struct {
		ahead, behind string
	}{
		{"int 1; ", "if on; on: int 0; raise; "}, {"int 1; ", "raise; "}, {"con 0 0; ", "case 0 a b c; a: int 0; raise; b: int 0; raise; c: int 0; raise; "},
	} {
		wantSomeStates(t, c.behind, scene("try out; "+c.ahead+c.behind+"out: raise"), 1)
		wantNoStates(t, c.behind, scene(c.ahead+"try out; "+c.behind+"out: raise"), 1)
		wantSomeStates(t, c.behind, scene(c.ahead+"try out; done; "+c.behind+"out: raise"), 1)
		wantSomeStates(t, c.behind, scene(c.ahead+"try out; "+c.ahead+c.behind+"out: raise"), 1)
		wantNoStates(t, c.behind, scene("try out; "+c.ahead+"try in; "+c.behind+"in: raise; out: raise"), 1)
		wantSomeStates(t, c.behind, scene("try out; "+c.ahead+"try in; done; "+c.behind+"in: raise; out: raise"), 1)
	}
}

// TestHowHighTheStackIs: MaxStack, and one more, by each op.
func TestHowHighTheStackIs(t *testing.T) {
	for _, row := range firstRows() {
		for high := impl.MaxStack - 2; high <= impl.MaxStack; high++ {
			behind := slices.Concat(slices.Repeat([]impl.Ty{tyUnit}, high-len(row.pops)), row.pushes)
			text := fmt.Sprint(high-len(row.pops), "*unit; ", pushing(row.pops...), row.ins, "; ")
			if len(behind) >= impl.MaxStack {
				// Two that become one leave room.
				text += "pair; "
			}
			p := scene(text + "int 0; raise")
			what := fmt.Sprint(row.ins, " at ", high)
			if len(behind) > impl.MaxStack {
				wantNoStates(t, what, p, 1)
				continue
			}
			if list, ok := impl.States(p, 1); !ok || !slices.EqualFunc(list[high+1].Stack, behind, rawSame) {
				t.Errorf("%s: %v", what, ok)
			}
		}
	}
	for what, c := range map[string]struct {
		text string
		ok   bool
	}{
		"raise at MaxStack":                 {"299*unit; int 0; raise", true},
		"an int too many":                   {"300*unit; int 0; raise", false},
		"if at MaxStack":                    {"299*unit; int 0; if on; on: int 0; raise", true},
		"set at MaxStack":                   {"299*unit; int 0; set 0; int 0; raise", true},
		"get below MaxStack":                {"int 0; set 0; 299*unit; get 0; raise", true},
		"get at MaxStack":                   {"int 0; set 0; 300*unit; get 0; raise", false},
		"try below MaxStack":                {"299*unit; try out; int 0; raise; out: raise", true},
		"try at MaxStack":                   {"300*unit; try out; done; pair; int 0; raise; out: raise", false},
		"a case of two fields at MaxStack":  {"299*unit; con 0 0; case 0 a b c; a: int 0; raise; b: len; raise; c: pair; int 0; raise", false},
		"a case of two fields below it":     {"298*unit; con 0 0; case 0 a b c; a: int 0; raise; b: len; raise; c: pair; int 0; raise", true},
		"a case of three fields":            {"297*unit; " + pushing(tyData(1)) + "case 1 on; on: len; raise", true},
		"a case of three fields, one above": {"298*unit; " + pushing(tyData(1)) + "case 1 on; on: len; raise", false},
		"a case of three fields, two above": {"299*unit; " + pushing(tyData(1)) + "case 1 on; on: len; raise", false},
		"a case of no fields at MaxStack":   {"299*unit; con 2 0; case 2 on on on on on; on: int 0; raise", true},
	} {
		if _, got := impl.States(scene(c.text), 1); got != c.ok {
			t.Errorf("%s: %v", what, got)
		}
	}
}

// TestPushOfWhatIsNoType: pairs and refs that are too deep or too great.
func TestPushOfWhatIsNoType(t *testing.T) {
	of := func(code string, env ...impl.Ty) impl.Program {
		return impl.Program{Blocks: []impl.Block{{Code: codeOf("unit; return")}, {Env: env, Code: codeOf(code + "; int 0; raise")}}}
	}
	deep, great := refs(impl.MaxDepth, tyInt), fieldOf(impl.MaxSize)
	for what, p := range map[string]impl.Program{
		"a ref of MaxDepth": of("env 0; ref", refs(impl.MaxDepth-1, tyInt)), "a ref of MaxSize": of("env 0; ref", fieldOf(impl.MaxSize-1)), "a pair of MaxDepth": of("env 0; env 0; pair", refs(impl.MaxDepth-1, tyInt)),
		"a pair of MaxSize": of("env 0; env 1; pair", fieldOf(30), fieldOf(29)), "a pair of MaxSize, the other way round": of("env 1; env 0; pair", fieldOf(30), fieldOf(29)), "MaxDepth from Env": of("env 0", deep), "MaxSize from Env": of("env 0", great),
	} {
		wantSomeStates(t, what, p, 1)
	}
	for what, p := range map[string]impl.Program{
		"a ref too deep": of("env 0; ref", deep), "a ref too great": of("env 0; ref", great), "a ref of a ref too deep": of("env 0; ref; ref", refs(impl.MaxDepth-1, tyInt)), "a pair too deep by its first": of("env 0; unit; pair", deep), "a pair too deep by its second": of("unit; env 0; pair", deep),
		"a pair too great": of("env 0; env 0; pair", fieldOf(30)), "a pair too great by its first": of("env 0; unit; pair", fieldOf(impl.MaxSize-1)), "a pair too great by its second": of("unit; env 0; pair", fieldOf(impl.MaxSize-1)),
		"a pair far too great": of("env 0; env 0; pair", great), "pairs of pairs": of("env 0; env 0; pair; env 0; env 0; pair; pair", fieldOf(15)),
	} {
		wantNoStates(t, what, p, 1)
	}
	// A fun that is too deep or too great makes the program none.
	for what, b := range map[string]impl.Block{"self too deep": {Arg: deep, Code: codeOf("int 0; raise")}, "self too great": {Res: fieldOf(impl.MaxSize - 1), Code: codeOf("int 0; raise")}} {
		p := of("close 2", tyInt)
		p.Blocks = append(p.Blocks, b)
		for n := range p.Blocks {
			wantNoStates(t, what, p, n)
		}
	}
	p := of("close 2; self; pair", tyInt)
	p.Blocks = append(p.Blocks, impl.Block{Arg: refs(impl.MaxDepth-2, tyInt), Code: codeOf("int 0; raise")})
	wantSomeStates(t, "funs within MaxDepth", p, 1)
	p.Blocks[2].Arg = refs(impl.MaxDepth-1, tyInt)
	wantNoStates(t, "a pair of a fun of MaxDepth", p, 1)
}

// TestPlacesThatAreNotThere: A (and B) just past the end, and far.
func TestPlacesThatAreNotThere(t *testing.T) {
	p := scene("return")
	for word, count := range map[string]int{"env": len(sceneTypes), "get": 3, "set": 3, "close": 4, "foreign": impl.CapPut + 1} {
		for _, a := range []int{count, count + 1, impl.MaxHeld - 1, impl.MaxHeld, impl.MaxHeld + 1, impl.MaxBlocks, impl.MaxNum} {
			// With all on the stack, and all set, that could be asked for.
			text := fmt.Sprint("int 0; set 0; lit; set 1; con 0 0; set 2; int 0; lit; int 0; int 0; ", word, " ", a, "; int 0; raise")
			wantNoStates(t, text, scene(text), 1)
		}
	}
	for layout := range 4 {
		for con := range 7 {
			var fields []impl.Ty
			ok := layout < len(p.Layouts) && con < len(p.Layouts[layout].Cons)
			if ok {
				fields = p.Layouts[layout].Cons[con]
			}
			text := fmt.Sprint(pushing(fields...), "con ", layout, " ", con, "; int 0; raise")
			if _, got := impl.States(scene(text), 1); got != ok {
				t.Errorf("%s: %v", text, got)
			}
		}
	}
	for _, text := range []string{"con 20 0", "con 2147483647 0", "con 0 2147483647", "con 2147483647 2147483647", "con 2 5", "close 0", "int 0; lit; close 0", "close 1", "int 0; lit; close 1"} {
		wantNoStates(t, text, scene(text+"; int 0; raise"), 1)
	}
	// A block may close itself, with its Env.
	wantSomeStates(t, "close 1", scene(pushing(sceneTypes...)+"close 1; int 0; raise"), 1)
	wantNoStates(t, "close 1 with one less", scene(pushing(sceneTypes[1:]...)+"close 1; int 0; raise"), 1)
	// Also where block 0 could be closed but for its number.
	wantNoStates(t, "block 0 closes itself", oneBlock(impl.Block{Code: codeOf("close 0; unit; call; return")}), 0)
	none := oneBlock(impl.Block{Code: codeOf("int 0; raise")})
	wantStates(t, "a block without Locals", none, 0, "||", "|int|")
	for _, text := range []string{"env 0", "get 0", "unit; set 0", "con 0 0", "close 1"} {
		none.Blocks[0].Code = codeOf(text + "; int 0; raise")
		wantNoStates(t, text+" where there is none", none, 0)
	}
	none.Layouts, none.Blocks[0].Code = nil, codeOf("unit; case 0 on; on: int 0; raise")
	wantNoStates(t, "a case where there is no layout", none, 0)
}

func TestWhatIsSet(t *testing.T) {
	for i, ty := range scene("return").Blocks[1].Locals {
		get := fmt.Sprint("get ", i, "; int 0; raise")
		wantNoStates(t, "not set: "+get, scene(get), 1)
		for other, otherTy := range scene("return").Blocks[1].Locals {
			set := pushing(otherTy) + fmt.Sprint("set ", other, "; ")
			digits := []byte("000")
			digits[other] = '1'
			said := string(digits)
			if other == i {
				wantStates(t, set+get, scene(set+get), 1, "000||", "000|"+rawText(ty)+"|", said+"||", said+"|"+rawText(ty)+"|", said+"|"+rawText(ty)+" int|")
			} else {
				wantNoStates(t, set+get, scene(set+get), 1)
			}
		}
	}
	wantStates(t, "twice, and got twice", scene("int 1; set 0; int 2; set 0; get 0; get 0; add; raise"), 1, "000||", "000|int|", "100||", "100|int|", "100||", "100|int|", "100|int int|", "100|int|")
	wantNoStates(t, "set of another type", scene("int 1; set 0; lit; set 0; int 0; raise"), 1)
	// MaxHeld Locals.
	many := oneBlock(impl.Block{Locals: slices.Repeat([]impl.Ty{tyInt}, impl.MaxHeld), Code: codeOf("int 1; set 59; get 59; raise")})
	noughts := strings.Repeat("0", impl.MaxHeld)
	last := noughts[1:] + "1"
	wantStates(t, "the last of MaxHeld", many, 0, noughts+"||", noughts+"|int|", last+"||", last+"|int|")
	many.Blocks[0].Locals = many.Blocks[0].Locals[1:]
	wantNoStates(t, "one less than MaxHeld", many, 0)
	// What lies behind the length is no local.
	wantNoStates(t, "get of what is no local", oneBlock(impl.Block{Locals: []impl.Ty{tyInt, tyInt}[:1], Code: codeOf("int 0; set 1; get 1; raise")}), 0)
}

// TestComingFurtherBehindAlone: not to the same instruction, not ahead, not past the end; the stack would be the same there.
func TestComingFurtherBehindAlone(t *testing.T) {
	for what, code := range map[string]string{
		"jump":                "int 7; set 0; unit; jump %s; out: int 0; raise",
		"if":                  "unit; int 7; if %s; out: int 0; raise",
		"case, the first one": "con 2 0; case 2 %s out out out out; out: int 0; raise",
		"case, one between":   "con 2 0; case 2 out out %s out out; out: int 0; raise",
		"case, the last one":  "con 2 0; case 2 out out out out %s; out: int 0; raise",
		"case, alone":         pushing(tyData(1)) + "case 1 %s; out: set 1; raise",
		"try":                 "unit; try %s; done; int 0; raise; out: raise",
	} {
		with := func(place string) []impl.Ins { return codeOf(strings.ReplaceAll(code, "%s", place)) }
		from := slices.IndexFunc(with("0"), func(n impl.Ins) bool {
			return slices.Contains([]int{impl.InJump, impl.InIf, impl.InCase, impl.InTry}, n.Op)
		})
		count := len(with("0"))
		places := []int{count, count + 1, count + 100, impl.MaxCode - 1, impl.MaxCode, impl.MaxNum}
		for place := range from + 1 {
			places = append(places, place)
		}
		p := scene("return")
		for _, place := range places {
			p.Blocks[1].Code = with(strconv.Itoa(place))
			wantNoStates(t, fmt.Sprint(what, " to ", place), p, 1)
		}
		p.Blocks[1].Code = with("out")
		wantSomeStates(t, what, p, 1)
		// What lies behind the code's length is not there.
		p.Blocks[1].Code = append(with("out"), codeOf("int 0; raise")...)[:count]
		wantSomeStates(t, what+", with more behind it", p, 1)
		p.Blocks[1].Code = append(with(strconv.Itoa(count)), codeOf("int 0; raise")...)[:count]
		wantNoStates(t, what+" to what lies behind the code", p, 1)
	}
}

func TestJump(t *testing.T) {
	wantStates(t, "to the next one", scene("int 0; jump on; on: raise"), 1, "000||", "000|int|", "000|int|")
	wantStates(t, "over one that others reach", scene("int 1; if a; lit; set 1; jump b; a: int 0; set 0; b: int 0; raise"), 1, "000||", "000|int|", "000||", "000|text|", "010||", "000||", "000|int|", "000||", "000|int|")
	for what, text := range map[string]string{
		"over what nothing reaches": "int 0; jump on; unit; on: raise", "back": "on: int 0; set 0; jump on", "to itself": "on: jump on", "to the first one": "int 0; set 0; jump 0", "past the end": "int 0; jump 2", "far past the end": "int 0; jump 2147483647",
		"a raise that nothing reaches": "int 0; raise; int 0; raise", "a return that nothing reaches": "lit; ref; return; return", "behind a jump at the end": "int 0; if on; on: jump 3",
	} {
		wantNoStates(t, what, scene(text), 1)
	}
}

func TestIf(t *testing.T) {
	wantStates(t, "both ways", scene("lit; int 1; if else; ref; return; else: int 0; raise"), 1, "000||", "000|text|", "000|text int|", "000|text|", "000|(ref text)|", "000|text|", "000|text int|")
	wantStates(t, "to the next one", scene("lit; int 1; if on; on: ref; return"), 1, "000||", "000|text|", "000|text int|", "000|text|", "000|(ref text)|")
	for what, text := range map[string]string{
		"of a text": "lit; if on; on: int 0; raise", "of a unit": "unit; if on; on: int 0; raise", "of nothing": "if on; on: int 0; raise", "back": "on: int 1; if on; int 0; raise", "past the end": "int 1; if 4; int 0; raise", "as the last one": "int 1; if 2", "as the last one, to itself": "int 1; if 1",
	} {
		wantNoStates(t, what, scene(text), 1)
	}
}

func TestCase(t *testing.T) {
	full := "lit; con 0 0; case 0 a b c; a: ref; return; b: len; raise; c: set 2; ref; return"
	wantStates(t, "three constructors", scene(full), 1, "000||", "000|text|", "000|text (data 0)|", "000|text|", "000|(ref text)|", "000|text int text|", "000|text int int|", "000|text (data 0)|", "001|text|", "001|(ref text)|")
	wantStates(t, "the fields, the last one on top", scene(pushing(tyData(1))+"case 1 on; on: set 1; set 0; int 0; raise"), 1, "000||", "000|(data 1)|", "000|unit int text|", "010|unit int|", "110|unit|", "110|unit int|")
	wantStates(t, "all to one", scene("con 2 3; case 2 on on on on on; on: int 0; raise"), 1, "000||", "000|(data 2)|", "000||", "000|int|")
	meets := "int 1; if else; " + pushing(tyData(1)) + "case 1 on; else: unit; int 0; lit; on: int 0; raise"
	wantStates(t, "where others come, too", scene(meets), 1, "000||", "000|int|", "000||", "000|(data 1)|", "000||", "000|unit|", "000|unit int|", "000|unit int text|", "000|unit int text int|")
	for what, text := range map[string]string{
		"one To too few": "lit; con 0 0; case 0 a b; a: ref; return; b: len; raise", "one To too many": strings.Replace(full, "a b c;", "a b c c;", 1), "one To": "con 0 0; case 0 on; on: int 0; raise", "four To": "con 2 3; case 2 on on on on; on: int 0; raise",
		"another data": "con 2 0; case 0 a b c; a: int 0; raise; b: int 0; raise; c: int 0; raise", "another data with as many": pushing(tyData(0)) + "case 1 on; on: int 0; raise", "no data": "int 0; case 1 on; on: int 0; raise", "no layout": pushing(tyData(1)) + "case 3 on; on: int 0; raise",
		"far no layout": pushing(tyData(1)) + "case 2147483647 on; on: int 0; raise", "nothing on the stack": "case 1 on; on: int 0; raise", "other fields to one": "con 0 0; case 0 on on on; on: int 0; raise", "it does not come behind": "con 2 3; case 2 on on on on on; unit; on: int 0; raise",
		"one To back": "con 2 3; case 2 on on on on 0; on: int 0; raise", "one To itself": "con 2 3; case 2 1 on on on on; on: int 0; raise", "one To past the end": "con 2 3; case 2 on on 4 on on; on: int 0; raise", "as the last one": "con 2 3; case 2 2 2 2 2 2",
		"one To too few, where others come": "int 1; if on; con 2 3; case 2 on on on on; on: int 0; raise", "one To too many, where others come": strings.Replace(meets, "on;", "on on;", 1), "one To too few, as the last one": "con 2 3; case 2 2 2 2 2",
	} {
		wantNoStates(t, what, scene(text), 1)
	}
}

func TestReturnAndRaise(t *testing.T) {
	wantStates(t, "the result alone", scene("lit; ref; return"), 1, "000||", "000|text|", "000|(ref text)|")
	wantStates(t, "twice", scene("int 0; if on; lit; ref; return; on: lit ab; ref; return"), 1, "000||", "000|int|", "000||", "000|text|", "000|(ref text)|", "000||", "000|text|", "000|(ref text)|")
	wantStates(t, "a raise with more on the stack", scene("unit; lit; int 3; raise"), 1, "000||", "000|unit|", "000|unit text|", "000|unit text int|")
	wantStates(t, "a raise where a try is open", scene("try out; int 3; raise; out: raise"), 1, "000||", "000||3/0", "000|int|3/0", "000|int|")
	for what, text := range map[string]string{
		"more on the stack": "unit; lit; ref; return", "the result twice": "lit; ref; lit; ref; return", "another type": "lit; return", "another ref": "int 0; ref; return", "the result below": "lit; ref; unit; return", "nothing": "return",
		"a try open":                        "try out; lit; ref; return; out: raise",
		"a try open, which began with more": "unit; try out; lit; ref; return; out: raise",
		"the result below an open try":      "lit; ref; try out; return; out: raise",
		"one of two tries open":             "try out; try in; lit; ref; done; return; in: raise; out: raise",
		"a raise of a text":                 "lit; raise", "a raise of a unit": "unit; raise", "a raise of nothing": "raise", "a raise of what is below": "int 0; lit; raise",
		"it comes not behind a return": "lit; ref; return; int 0; raise", "it comes not behind a raise": "int 0; raise; lit; ref; return",
	} {
		wantNoStates(t, what, scene(text), 1)
	}
	wantSomeStates(t, "a try that is done", scene("try out; lit; ref; done; return; out: raise"), 1)
	wantSomeStates(t, "both done", scene("try out; try in; lit; ref; done; done; return; in: raise; out: raise"), 1)
	wantSomeStates(t, "done ahead of the result", scene("try out; done; lit; ref; return; out: raise"), 1)
}

// TestCodeThatRunsOut: nothing may come behind the last instruction.
func TestCodeThatRunsOut(t *testing.T) {
	for _, row := range firstRows() {
		text := pushing(row.pops...) + row.ins
		wantNoStates(t, text, scene(text), 1)
	}
	for _, text := range []string{"int 0; if 2", "try 1", "unit; try 2", "try out; done; jump on; out: set 0; on: unit", "try out; int 0; raise; out: set 0", "con 2 0; case 2 on on on on on; on: unit", "int 0; jump on; on: set 0"} {
		wantNoStates(t, text, scene(text), 1)
	}
}

// TestWhatNothingReaches: wherever it stands.
func TestWhatNothingReaches(t *testing.T) {
	for _, end := range []string{"int 0; raise; ", "lit; ref; return; ", "jump last; ", "con 2 0; case 2 last last last last last; "} {
		for _, row := range opRows()[:40] {
			text := end + row.ins + "; last: int 0; raise"
			wantNoStates(t, text, scene(text), 1)
		}
		for _, dead := range []string{"raise", "return", "jump last", "if last", "case 2 last last last last last", "try last", "done"} {
			text := end + dead + "; last: int 0; raise"
			wantNoStates(t, text, scene(text), 1)
		}
	}
	// What only something that is reached by nothing comes to.
	wantNoStates(t, "a circle of their own", scene("int 0; raise; jump on; on: int 0; raise"), 1)
}

// TestWhereSeveralComeToOne: the same stacks and tries; set is what all have set.
func TestWhereSeveralComeToOne(t *testing.T) {
	for what, c := range map[string]struct{ code, on string }{
		"one way has set one":               {"int 1; if on; int 2; set 0; on: int 0; raise", "000||"},
		"the other way has set it":          {"int 1; if else; jump on; else: int 2; set 0; on: int 0; raise", "000||"},
		"both have":                         {"int 1; if else; int 2; set 0; jump on; else: int 3; set 0; on: int 0; raise", "100||"},
		"both, and each one more":           {"int 1; if else; int 2; set 0; lit; set 1; jump on; else: con 0 0; set 2; int 3; set 0; on: int 0; raise", "100||"},
		"each another":                      {"int 1; if else; int 2; set 0; jump on; else: lit; set 1; on: int 0; raise", "000||"},
		"set ahead of both":                 {"lit; set 1; int 1; if else; int 0; set 0; jump on; else: con 0 0; set 2; on: int 0; raise", "010||"},
		"three ways":                        {"lit; set 1; int 1; if a; int 2; if b; int 5; set 0; jump on; a: int 3; set 0; jump on; b: int 4; set 0; con 0 0; set 2; on: int 0; raise", "110||"},
		"three ways, one without":           {"lit; set 1; int 1; if a; int 2; if b; int 5; set 0; jump on; a: jump on; b: int 4; set 0; con 0 0; set 2; on: int 0; raise", "010||"},
		"a stack of two":                    {"unit; lit; int 1; if else; jump on; else: set 1; lit; on: int 0; raise", "000|unit text|"},
		"stacks made each by itself":        {"int 1; if else; unit; lit; pair; jump on; else: unit; lit ab; pair; on: int 0; raise", "000|(pair unit text)|"},
		"a try that both are in":            {"unit; try out; int 1; if else; jump on; else: int 0; set 0; on: int 0; raise; out: raise", "000|unit|9/1"},
		"tries opened each by itself":       {"int 1; if else; try out; jump on; else: try out; on: int 0; raise; out: raise", "000||7/0"},
		"alts":                              {"con 0 0; case 0 a b c; a: int 1; set 0; jump on; b: set 1; set 0; jump on; c: set 2; int 0; set 0; on: int 0; raise", "100||"},
		"what was raised, and what was not": {"unit; try out; int 7; int 8; set 0; done; jump on; out: lit; set 1; on: set 0; int 0; raise", "000|unit int|"},
	} {
		list, ok := impl.States(scene(c.code), 1)
		on := slices.IndexFunc(strings.Split(c.code, ";"), func(line string) bool { return strings.HasPrefix(line, " on:") })
		if !ok || sayState(list[on]) != c.on {
			t.Errorf("%s: %v, %q", what, ok, sayStates(list))
		}
	}
	for what, text := range map[string]string{
		"one more on the stack":             "int 1; if on; unit; on: int 0; raise",
		"one less":                          "unit; lit; int 1; if on; set 1; on: int 0; raise",
		"another type on top":               "int 1; if else; unit; jump on; else: lit; on: int 0; raise",
		"another type below":                "int 1; if else; unit; int 2; jump on; else: lit; int 2; on: raise",
		"another type within a type":        "int 1; if else; unit; ref; jump on; else: lit; ref; on: int 0; raise",
		"the two the other way round":       "int 1; if else; unit; int 2; jump on; else: int 2; unit; on: int 0; raise",
		"another data":                      "int 1; if else; con 0 0; jump on; else: con 2 0; on: int 0; raise",
		"the third one has another":         "int 1; if a; int 2; if b; unit; jump on; a: unit; jump on; b: lit; on: int 0; raise",
		"a try open":                        "int 1; if on; try out; on: int 0; raise; out: raise",
		"a try done":                        "try out; int 1; if on; done; on: int 0; raise; out: raise",
		"another To":                        "int 1; if else; try a; jump on; else: try b; on: int 0; raise; a: raise; b: raise",
		"another Height":                    "int 1; if else; unit; try a; jump on; else: try a; unit; on: int 0; raise; a: raise",
		"another To and Height":             "int 1; if else; unit; try a; jump on; else: try b; unit; on: int 0; raise; a: raise; b: raise",
		"another To of the one outside":     "int 1; if else; try a; try c; jump on; else: try b; try c; on: int 0; raise; a: raise; b: raise; c: raise",
		"the two tries the other way round": "int 1; if else; try a; try b; jump on; else: try b; try a; on: int 0; raise; a: raise; b: raise",
		"what is set on one way is got":     "int 1; if on; int 2; set 0; on: get 0; raise",
		"what is set on the other way":      "int 1; if else; jump on; else: int 2; set 0; on: get 0; raise",
		"what one of three has not set":     "int 1; if a; int 2; if b; int 5; set 0; jump on; a: jump on; b: int 4; set 0; on: get 0; raise",
		"what was set behind a try":         "try out; int 2; set 0; int 0; raise; out: get 0; raise",
		"what was raised as another type":   "try out; lit; done; jump out; out: int 0; raise",
	} {
		wantNoStates(t, what, scene(text), 1)
	}
}

// TestTries: what each leaves at A, and behind it.
func TestTries(t *testing.T) {
	for what, c := range map[string]struct {
		code string
		want []string
	}{
		"one":                                {"unit; try out; lit; set 1; done; int 0; raise; out: raise", []string{"000||", "000|unit|", "000|unit|7/1", "000|unit text|7/1", "010|unit|7/1", "010|unit|", "010|unit int|", "000|unit int|"}},
		"set ahead of it":                    {"int 5; set 0; try out; lit; set 1; int 0; raise; out: get 0; add; raise", []string{"000||", "000|int|", "100||", "100||7/0", "100|text|7/0", "110||7/0", "110|int|7/0", "100|int|", "100|int int|", "100|int|"}},
		"one within another":                 {"try out; unit; try in; int 0; raise; in: raise; out: raise", []string{"000||", "000||6/0", "000|unit|6/0", "000|unit|6/0 5/1", "000|unit int|6/0 5/1", "000|unit int|6/0", "000|int|"}},
		"one within another, done":           {"try out; unit; try in; done; done; int 0; raise; in: raise; out: raise", []string{"000||", "000||8/0", "000|unit|8/0", "000|unit|8/0 7/1", "000|unit|8/0", "000|unit|", "000|unit int|", "000|unit int|8/0", "000|int|"}},
		"one behind another, to one":         {"try out; done; try out; done; int 0; raise; out: raise", []string{"000||", "000||6/0", "000||", "000||6/0", "000||", "000|int|", "000|int|"}},
		"three at one height":                {"try a; try b; try c; int 0; raise; c: raise; b: raise; a: raise", []string{"000||", "000||7/0", "000||7/0 6/0", "000||7/0 6/0 5/0", "000|int|7/0 6/0 5/0", "000|int|7/0 6/0", "000|int|7/0", "000|int|"}},
		"left by a return":                   {"try out; lit; done; ref; return; out: set 0; lit; ref; return", []string{"000||", "000||5/0", "000|text|5/0", "000|text|", "000|(ref text)|", "000|int|", "100||", "100|text|", "100|(ref text)|"}},
		"a try within what takes":            {"try a; int 0; raise; a: try b; raise; b: raise", nil},
		"a try at what takes":                {"try a; int 0; raise; a: set 0; try b; get 0; raise; b: raise", []string{"000||", "000||3/0", "000|int|3/0", "000|int|", "100||", "100||7/0", "100|int|7/0", "100|int|"}},
		"to the next one":                    {"try on; on: raise", nil},
		"to the next one, done":              {"try on; on: done; int 0; raise", nil},
		"done without a try":                 {"done; int 0; raise", nil},
		"done twice":                         {"try out; done; done; int 0; raise; out: raise", nil},
		"done at what takes":                 {"try out; int 0; raise; out: done; raise", nil},
		"done at what takes, within another": {"try out; try in; int 0; raise; in: done; raise; out: raise", []string{"000||", "000||6/0", "000||6/0 4/0", "000|int|6/0 4/0", "000|int|6/0", "000|int|", "000|int|"}},
		"other stacks at one A":              {"try out; unit; try out; int 0; raise; out: raise", nil},
		"other tries at one A":               {"try out; try out; int 0; raise; out: raise", nil},
		"what takes without the int":         {"try out; int 0; raise; out: unit; return", nil},
	} {
		if c.want == nil {
			wantNoStates(t, what, scene(c.code), 1)
		} else {
			wantStates(t, what, scene(c.code), 1, c.want...)
		}
	}
}

// manyTries is code with so many tries open at once, each taken at a place of its own.
func manyTries(count int, ahead string) string {
	var text strings.Builder
	text.WriteString(ahead)
	for i := range count {
		fmt.Fprint(&text, "try a", i, "; ")
	}
	text.WriteString("int 0; raise")
	for i := range count {
		fmt.Fprint(&text, "; a", count-1-i, ": raise")
	}
	return text.String()
}

// TestHowManyTries: MaxStack, and one more; those that are open no more do not count.
func TestHowManyTries(t *testing.T) {
	for _, ahead := range []string{"", "unit; unit; "} {
		for _, count := range []int{1, 2, impl.MaxStack - 1, impl.MaxStack} {
			p := scene(manyTries(count, ahead))
			wantSomeStates(t, fmt.Sprint(count, " tries"), p, 1)
			high := strings.Count(ahead, ";")
			list, _ := impl.States(p, 1)
			inside := list[high+count]
			for i, try := range inside.Tries {
				if place := high + 2*count + 1 - i; try != (impl.Try{To: place, Height: high}) || len(list[place].Tries) != i || len(list[place].Stack) != high+1 {
					t.Fatalf("try %d of %d: %v, %v", i, count, try, list[place])
				}
			}
			if len(inside.Tries) != count || len(inside.Stack) != high {
				t.Errorf("%d tries: %q", count, sayState(inside))
			}
		}
		wantNoStates(t, "one try too many", scene(manyTries(impl.MaxStack+1, ahead)), 1)
		wantNoStates(t, "some tries too many", scene(manyTries(impl.MaxStack+20, ahead)), 1)
	}
	wantSomeStates(t, "one behind another", scene(strings.Repeat("try out; done; ", impl.MaxStack+50)+"int 0; raise; out: raise"), 1)
	// MaxStack of both.
	wantSomeStates(t, "a stack of MaxStack less one", scene(manyTries(impl.MaxStack, "299*unit; ")), 1)
	wantNoStates(t, "a stack of MaxStack", scene(manyTries(1, "300*unit; ")), 1)
}

func TestStatesOfWrongArguments(t *testing.T) {
	p := scene("int 0; raise")
	for n := range p.Blocks {
		wantSomeStates(t, fmt.Sprint("block ", n), p, n)
	}
	for _, n := range append([]int{len(p.Blocks), len(p.Blocks) + 1, -len(p.Blocks), impl.MaxBlocks, 1 << 32}, farNumbers...) {
		wantNoStates(t, fmt.Sprint("block ", n), p, n)
	}
	for _, n := range []int{math.MinInt, -1, 0, 1, math.MaxInt} {
		wantNoStates(t, fmt.Sprint("the zero value, block ", n), impl.Program{}, n)
	}
	// What lies behind the blocks' length is no block.
	p.Blocks = append(slices.Clone(p.Blocks), p.Blocks[3])[:3:4]
	wantNoStates(t, "behind the blocks", p, 3)
	p.Blocks[1].Code = codeOf("close 3; int 0; raise")
	wantNoStates(t, "closing what lies behind the blocks", p, 1)
}

// acceptedEvery is everyProgram with code that has states, of each block.
func acceptedEvery() impl.Program {
	p := copyProgram(everyProgram())
	for i, code := range []string{"int -5; return", "arg; fst; foreign 3; raise", "unit; return"} {
		p.Blocks[i].Code = codeOf(code)
	}
	p.Caps = []int{impl.CapGet}
	return p
}

// TestStatesOfWhatIsNoProgram: with one thing turned that makes it none, in whatever block.
func TestStatesOfWhatIsNoProgram(t *testing.T) {
	p := acceptedEvery()
	for n := range p.Blocks {
		wantSomeStates(t, "as it is", p, n)
	}
	if !impl.Check(p, []int{3}) {
		t.Error("as it is: refused")
	}
	refused := 0
	for _, turn := range programTurns() {
		if turn.ok {
			continue
		}
		p := acceptedEvery()
		turn.do(&p)
		for n := range 3 {
			wantNoStates(t, turn.what, p, n)
		}
		if impl.Check(p, []int{0, 1, 2, 3, 4}) {
			t.Errorf("%s: accepted", turn.what)
		}
		refused++
	}
	if refused < 500 {
		t.Error("the test's own turns:", refused)
	}
}

// TestStatesOfOneBlockAlone: whatever the others are, if it is a program.
func TestStatesOfOneBlockAlone(t *testing.T) {
	p := scene("int 0; raise")
	p.Blocks[0].Code, p.Blocks[2].Code = codeOf("foreign 9"), codeOf("jump 0")
	wantStates(t, "among others without", p, 1, "000||", "000|int|")
	wantNoStates(t, "foreign", p, 0)
	wantNoStates(t, "jump", p, 2)
	// Caps are not asked about there.
	p.Blocks[1].Code = codeOf("foreign 1; raise")
	wantStates(t, "a call that Caps do not have", p, 1, "000||", "000|int|")
	p.Caps = []int{0, 4}
	wantStates(t, "other Caps", p, 1, "000||", "000|int|")
}

// ticking is a program that is accepted with its Caps, 1 and 3: block 1 is closed by block 0, block 2 by nobody.
func ticking() impl.Program {
	return impl.Program{
		Blocks: []impl.Block{
			{Res: tyInt, Code: codeOf("foreign 1; close 1; unit; call; return")},
			{Env: []impl.Ty{tyInt}, Res: tyInt, Code: codeOf("env 0; foreign 3; return")},
			{Arg: tyText, Res: tyInt, Locals: []impl.Ty{tyInt}, Code: codeOf("try out; foreign 1; done; return; out: set 0; arg; len; return")},
		},
		Caps: []int{1, 3},
	}
}

func wantCheck(t *testing.T, what string, p impl.Program, grants []int, ok bool) {
	t.Helper()
	if got := impl.Check(p, grants); got != ok {
		t.Errorf("%s: %v", what, got)
	}
	b, isProgram := impl.CodeBytes(p)
	if got := impl.CheckBytes(b, grants); got != (ok && isProgram) {
		t.Errorf("%s: CheckBytes is %v", what, got)
	}
}

func TestCheckOfGrants(t *testing.T) {
	for _, c := range []struct {
		grants []int
		ok     bool
	}{
		{[]int{1, 3}, true}, {[]int{3, 1}, true}, {[]int{0, 1, 2, 3, 4}, true}, {[]int{4, 3, 2, 1, 0}, true}, {[]int{3, 3, 1, 1, 3}, true}, {[]int{-1, 3, 77, 1}, true}, {[]int{math.MinInt, math.MaxInt, 1, 3}, true}, {append(make([]int, 100000), 3, 1), true},
		{nil, false}, {[]int{}, false}, {[]int{1}, false}, {[]int{3}, false}, {[]int{1, 1}, false}, {[]int{0, 2, 4}, false}, {[]int{0, 1, 2, 4}, false}, {[]int{0, 2, 3, 4}, false}, {[]int{-1, -3}, false}, {[]int{5, 6, 7}, false}, {[]int{13}, false}, {[]int{1, 3 + 1<<32}, false}, {[]int{1 << 32, 3}, false},
	} {
		wantCheck(t, fmt.Sprintf("%.60v", c.grants), ticking(), c.grants, c.ok)
	}
	// Without Caps none need be granted.
	none := oneBlock(impl.Block{Code: codeOf("unit; return")})
	for _, grants := range [][]int{nil, {}, {0}, {-1}, {4, 4, 99}} {
		wantCheck(t, fmt.Sprint("no Caps: ", grants), none, grants, true)
	}
	// More grants never make it refused: one after the other, in any order.
	for _, order := range [][]int{{0, 1, 2, 3, 4}, {4, 3, 2, 1, 0}, {2, 3, 0, 1, 4}, {3, 9, 1, 0, 2}} {
		was := false
		for size := range len(order) + 1 {
			is := impl.Check(ticking(), order[:size])
			if was && !is {
				t.Errorf("%v: refused with more", order[:size])
			}
			was = is
		}
		if !was {
			t.Errorf("%v: refused", order)
		}
	}
}

// TestCheckOfCaps: just those of CapsOf, no more and no fewer, whatever is granted.
func TestCheckOfCaps(t *testing.T) {
	eachGrants(func(caps []int) {
		p := ticking()
		p.Caps = caps
		wantCheck(t, fmt.Sprint("Caps ", caps), p, []int{0, 1, 2, 3, 4}, slices.Equal(caps, []int{1, 3}))
		wantCheck(t, fmt.Sprint("Caps ", caps, " alone"), p, caps, slices.Equal(caps, []int{1, 3}))
	})
	for _, caps := range [][]int{{3, 1}, {1, 1, 3}, {1, 3, 5}, {-1, 1, 3}} {
		p := ticking()
		p.Caps = caps
		wantCheck(t, fmt.Sprint("Caps ", caps), p, []int{-1, 0, 1, 2, 3, 4, 5}, false)
	}
	// A call in a block that nobody closes counts.
	p := ticking()
	p.Blocks[2].Code = codeOf("lit; foreign 0; int 0; raise")
	wantCheck(t, "a call that nobody makes", p, []int{0, 1, 2, 3, 4}, false)
	p.Caps = []int{0, 1, 3}
	wantCheck(t, "a call that nobody makes, in Caps", p, []int{0, 1, 2, 3, 4}, true)
	wantCheck(t, "a call that nobody makes, not granted", p, []int{1, 2, 3, 4}, false)
	for kind := range impl.CapPut + 1 {
		p := oneBlock(impl.Block{Code: codeOf(fmt.Sprint([]string{"lit; ", "", "int 1; ", "int 1; ", "int 1; int 2; "}[kind], "foreign ", kind, "; int 0; raise"))})
		wantCheck(t, fmt.Sprint("no Caps for ", kind), p, []int{0, 1, 2, 3, 4}, false)
		p.Caps = []int{kind}
		eachGrants(func(grants []int) {
			wantCheck(t, fmt.Sprint(kind, " with ", grants), p, grants, slices.Contains(grants, kind))
		})
	}
	above := oneBlock(impl.Block{Code: codeOf("int 1; foreign 5; raise")})
	wantCheck(t, "above CapPut", above, []int{0, 1, 2, 3, 4, 5}, false)
	above.Caps = []int{5}
	wantCheck(t, "above CapPut, in Caps", above, []int{0, 1, 2, 3, 4, 5}, false)
}

// TestCheckOfTheFirstBlock: no Env, and Arg unit; Res and Locals may be any.
func TestCheckOfTheFirstBlock(t *testing.T) {
	raises := codeOf("int 0; raise")
	for what, c := range map[string]struct {
		b  impl.Block
		ok bool
	}{
		"nothing":        {impl.Block{Code: raises}, true},
		"a Res":          {impl.Block{Res: tyOf(impl.TyPair, tyText, inRef(tyInt)), Code: raises}, true},
		"Locals":         {impl.Block{Locals: slices.Repeat([]impl.Ty{tyText}, impl.MaxHeld), Code: raises}, true},
		"an empty Env":   {impl.Block{Env: []impl.Ty{}, Code: raises}, true},
		"an Env":         {impl.Block{Env: []impl.Ty{tyUnit}, Code: raises}, false},
		"MaxHeld Env":    {impl.Block{Env: slices.Repeat([]impl.Ty{tyInt}, impl.MaxHeld), Code: raises}, false},
		"Arg int":        {impl.Block{Arg: tyInt, Code: raises}, false},
		"Arg text":       {impl.Block{Arg: tyText, Code: raises}, false},
		"Arg a ref":      {impl.Block{Arg: inRef(tyUnit), Code: raises}, false},
		"Arg a pair":     {impl.Block{Arg: tyOf(impl.TyPair, tyUnit, tyUnit), Code: raises}, false},
		"Arg a fun":      {impl.Block{Arg: tyOf(impl.TyFun, tyUnit, tyUnit), Code: raises}, false},
		"Arg a variable": {impl.Block{Arg: tyVar(0), Code: raises}, false},
		"Arg no type":    {impl.Block{Arg: impl.Ty{N: 1}, Code: raises}, false},
	} {
		wantCheck(t, what, oneBlock(c.b), nil, c.ok)
		wantCheck(t, what+", and another block", impl.Program{Blocks: []impl.Block{c.b, {Code: raises}}}, nil, c.ok)
		// All others may have both.
		if impl.ProgramOk(oneBlock(c.b)) {
			wantSomeStates(t, what, oneBlock(c.b), 0)
			wantCheck(t, what+", as block 1", impl.Program{Blocks: []impl.Block{{Code: raises}, c.b}}, nil, true)
		}
	}
	data := impl.Program{Layouts: []impl.Layout{{Cons: make([][]impl.Ty, 1)}}, Blocks: []impl.Block{{Arg: tyData(0), Code: raises}}}
	wantCheck(t, "Arg a data", data, nil, false)
}

// TestCheckOfAllBlocks: also those that nobody closes, to the last of MaxBlocks.
func TestCheckOfAllBlocks(t *testing.T) {
	for _, count := range []int{1, 2, 3, impl.MaxBlocks} {
		whole := impl.Program{Blocks: slices.Repeat([]impl.Block{{Code: codeOf("unit; return")}}, count)}
		wantCheck(t, fmt.Sprint(count, " blocks"), whole, nil, true)
		for n := range count {
			for _, text := range []string{"unit", "return", "unit; unit; return", "int 0; return", "jump 0", "unit; return; unit", "close 0; return", "env 0; return"} {
				p := copyProgram(whole)
				p.Blocks[n].Code = codeOf(text)
				wantCheck(t, fmt.Sprint("block ", n, ": ", text), p, nil, false)
			}
		}
	}
	p := ticking()
	for n := range p.Blocks {
		turned := copyProgram(p)
		turned.Blocks[n].Code = slices.Insert(turned.Blocks[n].Code, 1, impl.Ins{})
		wantCheck(t, fmt.Sprint("a unit too many in block ", n), turned, []int{1, 3}, false)
	}
	wantCheck(t, "the zero value", impl.Program{}, nil, false)
	// What lies behind the blocks' length is not asked about.
	p.Blocks = append(slices.Clone(p.Blocks), impl.Block{})[:3]
	wantCheck(t, "more behind the blocks", p, []int{1, 3}, true)
}

// TestCheckBytes: of CodeBytes as Check, of all other bytes false.
func TestCheckBytes(t *testing.T) {
	b, _ := impl.CodeBytes(ticking())
	if !impl.CheckBytes(b, []int{1, 3}) || impl.CheckBytes(b, []int{1}) {
		t.Error("of CodeBytes")
	}
	for size := range b {
		if impl.CheckBytes(b[:size], []int{1, 3}) {
			t.Error("cut to", size)
		}
	}
	for value := range 256 {
		if impl.CheckBytes(append(slices.Clone(b), byte(value)), []int{1, 3}) {
			t.Error("one more:", value)
		}
	}
	taken := 0
	for at := range b {
		for value := range 256 {
			turned := slices.Clone(b)
			turned[at] = byte(value)
			p, ok := rawRead(turned)
			want := ok && rawCheck(p, []int{1, 3})
			if impl.CheckBytes(turned, []int{1, 3}) != want {
				t.Errorf("%d at %d: not %v", value, at, want)
			}
			if want && value != int(b[at]) {
				taken++
			}
		}
	}
	if taken < 5 {
		t.Error("the test's own bytes:", taken)
	}
	for _, other := range [][]byte{nil, {}, []byte("LK"), []byte("LK\x00\x00\x00"), make([]byte, 100), make([]byte, 100000)} {
		if impl.CheckBytes(other, []int{0, 1, 2, 3, 4}) {
			t.Errorf("%.20q", other)
		}
	}
	// A number that takes more bytes than it needs.
	if impl.CheckBytes(numbered(ticking(), 0, []byte{128, 0}), []int{1, 3}) {
		t.Error("a number in two bytes")
	}
}
