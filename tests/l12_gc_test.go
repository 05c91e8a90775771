package tests

import (
	"fmt"
	"math"
	"slices"
	"strconv"
	"strings"
	"testing"

	"loop.example/g00293/impl"
)

// A drawing is words of a half, parted by blanks: numbers, of which "3*7" is three times 7. "a:" names the place of the word that
// comes next, "@a" is that place; in what is told of another drawing "^a" is the place there. Behind "|" the words are not taken.
type drawing struct {
	items []string
	words []int
	taken int
	names map[string]int
}

// itemsOf reads a drawing whose first word has that place, all but its words.
func itemsOf(text string, first int) drawing {
	d := drawing{names: map[string]int{}, taken: -1}
	for _, item := range strings.Fields(text) {
		if name, ok := strings.CutSuffix(item, ":"); ok {
			d.names[name] = first + len(d.items)
			continue
		}
		if item == "|" {
			d.taken = len(d.items)
			continue
		}
		count := 1
		if times, rest, ok := strings.Cut(item, "*"); ok {
			count, _ = strconv.Atoi(times)
			item = rest
		}
		d.items = append(d.items, slices.Repeat([]string{item}, count)...)
	}
	if d.taken < 0 {
		d.taken = len(d.items)
	}
	return d
}

// drawn reads a drawing; old are the names of another one.
func drawn(text string, first int, old map[string]int) drawing {
	d := itemsOf(text, first)
	d.words = d.list(d.items, old)
	return d
}

func countDrawn(text string) int {
	return len(itemsOf(text, 0).items)
}

func (d drawing) word(item string, old map[string]int) int {
	names := d.names
	if strings.HasPrefix(item, "^") {
		names = old
	}
	if item[0] == '@' || item[0] == '^' {
		place, ok := names[item[1:]]
		if !ok {
			panic("the test's own drawing: " + item)
		}
		return place
	}
	n, err := strconv.Atoi(item)
	if err != nil {
		panic("the test's own drawing: " + item)
	}
	return n
}

func (d drawing) list(items []string, old map[string]int) []int {
	var list []int
	for _, item := range items {
		list = append(list, d.word(item, old))
	}
	return list
}

// A setting says where the words of a drawing stand: behind pad others, in a half of that size, the first or the second one.
type setting struct {
	pad  int
	half int
	low  int
}

// settingsOf are such that the words end with the half, and such that they don't; there is room for as many words to be moved.
func settingsOf(words int, moved int) []setting {
	pad := max(0, impl.MinHalf-words, moved-words)
	var list []setting
	for _, s := range []setting{{pad: pad, half: pad + words}, {pad: 0, half: pad + words + 5}, {pad: 3, half: pad + words + 3}} {
		if s.half <= impl.MaxHalf {
			list = append(list, s, setting{s.pad, s.half, s.half})
		}
	}
	return list
}

// heap: all words that are not drawn are not 0, and there is a log.
func (s setting) heap(text string) (impl.Heap, drawing) {
	d := drawn(text, s.low+s.pad, nil)
	h := withLog(dirtyHeap(s.half, s.low, s.pad+d.taken), append(logOf(5, s.half), impl.Access{At: -1, Low: 3, High: 9}))
	copy(h.Words[s.low+s.pad:], d.words)
	return h, d
}

// A drawnRoot is a root whose value is written as in a drawing.
type drawnRoot struct {
	ty   impl.Ty
	word string
}

func rootAt(ty impl.Ty, word string) drawnRoot {
	return drawnRoot{ty, word}
}

func (d drawing) roots(list []drawnRoot) []impl.Root {
	var roots []impl.Root
	for _, root := range list {
		roots = append(roots, impl.Root{Ty: root.ty, V: d.word(root.word, nil)})
	}
	return roots
}

// wantMoved looks, in all settings, for the words that were moved and for the roots' values, in the order of the drawing.
func wantMoved(t *testing.T, what string, p impl.Program, text string, roots []drawnRoot, want string, values string) {
	t.Helper()
	for _, s := range settingsOf(countDrawn(text), countDrawn(want)) {
		h, d := s.heap(text)
		other := s.half - s.low
		moved := drawn(want, other, d.names)
		behind := impl.Heap{Words: make([]int, 2*s.half), Half: s.half, Low: other, Next: other + len(moved.words), Log: h.Log}
		copy(behind.Words[other:], moved.words)
		wantBehind(t, fmt.Sprintf("%s: %+v", what, s), p, h, d.roots(roots), behind, moved.list(strings.Fields(values), d.names))
	}
}

// wantBehind looks for just that heap and these values, for Reach, and for what is promised of every collection.
func wantBehind(t *testing.T, what string, p impl.Program, h impl.Heap, roots []impl.Root, behind impl.Heap, values []int) {
	t.Helper()
	got, list, ok := impl.Collect(p, h, roots)
	if !ok || !sameHeap(got, behind) || !slices.Equal(list, values) {
		t.Errorf("%s: %v, %s, %v\nnot %s, %v", what, ok, sayHalf(got), list, sayHalf(behind), values)
	}
	if n := impl.Reach(p, h, roots); n != behind.Next-behind.Low {
		t.Errorf("%s: Reach is %d, not %d", what, n, behind.Next-behind.Low)
	}
	wantCollectAsRaw(t, what, p, h, roots)
}

// sayHalf tells of a long half only its beginning.
func sayHalf(h impl.Heap) string {
	if !impl.HeapOk(h) {
		return "no heap"
	}
	return fmt.Sprintf("half %d, low %d, next %d, log %d: %.200s", h.Half, h.Low, h.Next, len(h.Log), fmt.Sprint(h.Words[h.Low:h.Next]))
}

// wantNone looks for the one answer of all that is refused.
func wantNone(t *testing.T, what string, p impl.Program, h impl.Heap, roots []impl.Root) {
	t.Helper()
	if got, list, ok := impl.Collect(p, h, roots); ok || !isZeroHeap(got) || len(list) > 0 {
		t.Errorf("%s: %v, %s, %v", what, ok, sayHalf(got), list)
	}
	if n := impl.Reach(p, h, roots); n != -1 {
		t.Errorf("%s: Reach is %d", what, n)
	}
}

func wantStuck(t *testing.T, what string, p impl.Program, text string, roots ...drawnRoot) {
	t.Helper()
	for _, s := range settingsOf(countDrawn(text), 0) {
		h, d := s.heap(text)
		wantNone(t, fmt.Sprintf("%s: %+v", what, s), p, h, d.roots(roots))
		wantCollectAsRaw(t, what, p, h, d.roots(roots))
	}
}

// envsProgram has a block for each Env.
func envsProgram(layouts []impl.Layout, envs ...[]impl.Ty) impl.Program {
	p := impl.Program{Layouts: layouts}
	for _, env := range envs {
		p.Blocks = append(p.Blocks, impl.Block{Env: env, Code: units(1)})
	}
	return p
}

var (
	tyFun   = tyOf(impl.TyFun, tyInt, tyInt)
	tyInts  = tyOf(impl.TyPair, tyInt, tyInt)
	tyCell  = inRef(tyInt)
	tyCells = inRef(tyCell)
	tyList  = tyData(0)
	tyMany  = tyData(1)
)

// reaching has lists of ints (0: end; 1: an int and a list), datas of each kind of field, and blocks with and without Env.
func reaching() impl.Program {
	return envsProgram(
		[]impl.Layout{{Cons: [][]impl.Ty{nil, {tyInt, tyList}}}, {Cons: [][]impl.Ty{{tyText}, {tyMany, tyInt, tyMany}, {tyUnit}, {tyFun, tyCell, tyInts}, nil}}},
		nil, []impl.Ty{tyInt, tyText}, []impl.Ty{tyFun}, []impl.Ty{tyCell, tyUnit, tyList, tyInts}, nil)
}

func TestLimitOfTextsInTheHeap(t *testing.T) {
	if impl.MaxString != 60 {
		t.Error(impl.MaxString)
	}
}

// TestCollectOfPrograms: just those that are ProgramOk, whether something of them is asked for or not.
func TestCollectOfPrograms(t *testing.T) {
	h := plainHeap(16, 0, 16)
	for _, turn := range programTurns() {
		p := copyProgram(everyProgram())
		turn.do(&p)
		for _, roots := range [][]impl.Root{nil, {{Ty: tyInt, V: 5}}, {{Ty: tyText}}} {
			if !turn.ok {
				wantNone(t, turn.what, p, h, roots)
			} else if _, _, ok := impl.Collect(p, h, roots); !ok {
				t.Errorf("%s: refused", turn.what)
			}
		}
	}
	for _, size := range []int{impl.MaxBytes, impl.MaxBytes + 1} {
		p := fullProgram(size)
		if _, _, ok := impl.Collect(p, h, nil); ok != (size == impl.MaxBytes) {
			t.Errorf("a program of %d bytes: %v", size, ok)
		}
	}
}

// TestCollectOfHeaps: just those that are HeapOk; of these nothing is reached without roots.
func TestCollectOfHeaps(t *testing.T) {
	p := reaching()
	for _, c := range badHeaps() {
		for _, roots := range [][]impl.Root{nil, {{Ty: tyInt}}, {{Ty: tyText, V: c.heap.Low}}} {
			wantNone(t, c.name, p, c.heap, roots)
		}
	}
	for _, c := range goodHeaps() {
		h := c.heap
		other := h.Half - h.Low
		behind := impl.Heap{Words: make([]int, 2*h.Half), Half: h.Half, Low: other, Next: other, Log: h.Log}
		wantBehind(t, c.name, p, h, nil, behind, nil)
		wantBehind(t, c.name, p, h, []impl.Root{}, behind, nil)
		wantBehind(t, c.name, p, h, []impl.Root{{Ty: tyInt, V: h.Low}, {Ty: tyUnit, V: -7}}, behind, []int{h.Low, -7})
	}
}

func TestHowManyRoots(t *testing.T) {
	p, h := reaching(), plainHeap(16, 0, 16)
	for _, ty := range []impl.Ty{tyUnit, tyInt, tyText, tyInts, tyCells, tyFun, tyList} {
		for _, count := range []int{1, 999, 1000, 1001, 1002, 5000} {
			roots := slices.Repeat([]impl.Root{{Ty: ty}}, count)
			if count > 1000 {
				wantNone(t, fmt.Sprint(count, " roots"), p, h, roots)
				continue
			}
			got, list, ok := impl.Collect(p, h, roots)
			want := 0
			if rawBoxed(ty) {
				want = 16
			}
			if !ok || !filled(list, want) || len(list) != count || got.Low != 16 {
				t.Errorf("%d roots of %s: %v, %.200v", count, rawText(ty), ok, list)
			}
		}
	}
	wantNone(t, "very many roots", p, h, make([]impl.Root, 1000000))
}

// allZeroes is a heap in which an object of every low type stands at 0: of the first constructor, the first block or no bytes.
func allZeroes() impl.Heap {
	return plainHeap(64, 0, 64)
}

// TestRootsOfOtherTypes: wherever such a root stands, and whatever its value is.
func TestRootsOfOtherTypes(t *testing.T) {
	p := everyProgram()
	wantNoRoot := func(what string, ty impl.Ty) {
		for _, v := range []int{0, 1, 64, -1} {
			wantNone(t, what, p, allZeroes(), []impl.Root{{Ty: ty, V: v}})
		}
		good := []impl.Root{{Ty: tyText}, {Ty: tyInt, V: 4}}
		for at := range 3 {
			wantNone(t, what, p, allZeroes(), slices.Insert(slices.Clone(good), at, impl.Root{Ty: ty}))
		}
	}
	for _, c := range noTypes() {
		wantNoRoot(c.name, c.ty)
	}
	for what, c := range lowTypes() {
		if !c.ok {
			wantNoRoot(what, c.ty)
		} else if _, list, ok := impl.Collect(p, allZeroes(), []impl.Root{{Ty: c.ty}}); !ok || len(list) != 1 {
			t.Errorf("%s: refused", what)
		}
	}
	for n := range impl.MaxVar {
		if n < 5 || n > impl.MaxVar-5 {
			wantNoRoot(fmt.Sprint("the variable ", n), tyVar(n))
		}
	}
}

// TestRootsOfDatas: N is a layout of this program, whatever other programs have.
func TestRootsOfDatas(t *testing.T) {
	for _, layouts := range []int{0, 1, 2, impl.MaxData - 1, impl.MaxData} {
		p := envsProgram(slices.Repeat([]impl.Layout{{Cons: [][]impl.Ty{nil, {tyInt}}}}, layouts), nil)
		for n := -1; n <= impl.MaxData+1; n++ {
			for _, ty := range []impl.Ty{tyData(n), inRef(tyData(n)), tyOf(impl.TyPair, tyInt, tyData(n)), tyOf(impl.TyFun, tyData(n), tyInt)} {
				roots := []impl.Root{{Ty: ty}}
				if n < 0 || n >= layouts {
					wantNone(t, fmt.Sprint(layouts, " layouts: ", rawText(ty)), p, allZeroes(), roots)
				} else if _, _, ok := impl.Collect(p, allZeroes(), roots); !ok {
					t.Errorf("%d layouts: %s refused", layouts, rawText(ty))
				}
			}
		}
	}
}

// A reachWay reaches the object at @x of one type: the words ahead of it, the root, and what of both stands ahead of it behind a collection.
type reachWay struct {
	ahead string
	root  drawnRoot
	moved string
}

// waysTo are all ways to an object of that type, in a waysProgram: as a root, and as a part of each kind of object.
func waysTo(ty impl.Ty) []reachWay {
	return []reachWay{
		{"", rootAt(ty, "@x"), ""},
		{"r: @x", rootAt(inRef(ty), "@r"), "r: @x"},
		{"r: @x 5", rootAt(tyOf(impl.TyPair, ty, tyInt), "@r"), "r: @x 5"},
		{"r: 5 @x", rootAt(tyOf(impl.TyPair, tyInt, ty), "@r"), "r: 5 @x"},
		{"r: 1 5 @x", rootAt(tyFun, "@r"), "r: 1 5 @x"},
		{"r: 1 @x 5", rootAt(tyData(2), "@r"), "r: 1 @x 5"},
		{"7 r: @q 7 q: @x 7", rootAt(inRef(inRef(ty)), "@r"), "r: @q q: @x"},
	}
}

// waysProgram has block 1 and layout 2 for the ways, these layouts, of which there are at most two, and blocks of these envs from 2 on.
func waysProgram(ty impl.Ty, layouts []impl.Layout, envs ...[]impl.Ty) impl.Program {
	layouts = append(slices.Clone(layouts), slices.Repeat([]impl.Layout{{Cons: [][]impl.Ty{nil}}}, 2-len(layouts))...)
	layouts = append(layouts, impl.Layout{Cons: [][]impl.Ty{nil, {ty, tyInt}}})
	return envsProgram(layouts, append([][]impl.Ty{nil, {tyInt, ty}}, envs...)...)
}

// wantObject: what stands at x, the rest of a drawing, is an object of that type, of which that is moved.
func wantObject(t *testing.T, what string, p impl.Program, ty impl.Ty, text string, moved string) {
	t.Helper()
	for i, w := range waysTo(ty) {
		wantMoved(t, fmt.Sprint(what, ", way ", i), p, w.ahead+" x: "+text, []drawnRoot{w.root}, w.moved+" x: "+moved, w.root.word)
	}
}

func wantNoObject(t *testing.T, what string, p impl.Program, ty impl.Ty, text string) {
	t.Helper()
	for i, w := range waysTo(ty) {
		wantStuck(t, fmt.Sprint(what, ", way ", i), p, w.ahead+" x: "+text, w.root)
		wantStuck(t, fmt.Sprint(what, ", way ", i, " behind others"), p, "n: 8 m: 8 "+w.ahead+" x: "+text, rootAt(tyCell, "@n"), rootAt(tyInts, "@n"), rootAt(tyInt, "3"), w.root)
	}
}

func TestTextsInTheHeap(t *testing.T) {
	p := waysProgram(tyText, nil)
	for _, text := range []string{"0", "1 65", "2 65 66", "5 0 1 128 254 255", "3 3*0", "3 3*255", "59 59*7", "60 60*65", "60 59*0 255"} {
		for _, behind := range []string{"", " 9", " -1 300 | 1", " | -1", " | 65 65"} {
			wantObject(t, "a text", p, tyText, text+behind, text)
		}
	}
	for _, text := range []string{"-1", "-2", "-60", "61 61*65", "62 70*65", "256 300*65", "1000 1000*1", "-1 65 65"} {
		wantNoObject(t, "a text of other counts", p, tyText, text)
	}
	for _, text := range []string{"1 -1", "1 256", "3 -1 65 65", "3 65 -1 65", "3 65 65 -1", "3 256 65 65", "3 65 256 65", "3 65 65 256", "60 59*65 256", "60 59*65 -1", "2 65 1000000", "2 -1000000 0"} {
		wantNoObject(t, "a text of what is no byte", p, tyText, text+" 70")
	}
	for _, text := range []string{"1", "1 | 65", "2 65", "2 65 | 66 67", "60 59*65", "60 59*65 | 65 65", "60", "60 | 60*65", "| 0", "| 1 65"} {
		wantNoObject(t, "a text with too few words", p, tyText, text)
	}
	for _, far := range farNumbers {
		wantNoObject(t, "a text of very many bytes", p, tyText, strconv.Itoa(far)+" 65 65")
		wantNoObject(t, "a text of a very great byte", p, tyText, "2 65 "+strconv.Itoa(far))
	}
}

// TestNumbersInTheHeap: what is no place is any number, also one that is a place.
func TestNumbersInTheHeap(t *testing.T) {
	for _, n := range append([]int{0, 1, 2, 15, 16, 17, 31, 32, -1, 256, spareWord}, farNumbers...) {
		word := strconv.Itoa(n)
		for _, ty := range []impl.Ty{tyInt, tyUnit} {
			wantObject(t, "a ref of a number", waysProgram(inRef(ty), nil), inRef(ty), word, word)
			pair := tyOf(impl.TyPair, ty, tyInt)
			wantObject(t, "a pair of numbers", waysProgram(pair, nil), pair, word+" 4 9", word+" 4")
			wantObject(t, "a pair of numbers", waysProgram(pair, nil), pair, "4 "+word+" 9", "4 "+word)
			layouts := []impl.Layout{{Cons: [][]impl.Ty{{ty, tyInt, ty}}}}
			wantObject(t, "fields that are numbers", waysProgram(tyList, layouts), tyList, "0 "+word+" 4 "+word, "0 "+word+" 4 "+word)
			wantObject(t, "an Env of numbers", waysProgram(tyFun, nil, []impl.Ty{ty, tyInt, ty}), tyFun, "2 "+word+" 4 "+word, "2 "+word+" 4 "+word)
			wantMoved(t, "roots that are numbers", reaching(), "7 7", []drawnRoot{rootAt(ty, word), rootAt(tyInt, "4"), rootAt(ty, word)}, "", word+" 4 "+word)
		}
	}
}

func TestPairsAndRefsInTheHeap(t *testing.T) {
	p := waysProgram(tyInts, nil)
	wantObject(t, "a pair", p, tyInts, "3 4", "3 4")
	wantObject(t, "a pair", p, tyInts, "3 4 5 | 6", "3 4")
	wantNoObject(t, "a pair that lacks a word", p, tyInts, "3")
	wantNoObject(t, "a pair that lacks a word", p, tyInts, "3 | 4 5")
	wantNoObject(t, "a pair that lacks both", p, tyInts, "| 3 4")
	p = waysProgram(tyCell, nil)
	wantObject(t, "a ref", p, tyCell, "3", "3")
	wantObject(t, "a ref", p, tyCell, "3 4 | 5", "3")
	wantNoObject(t, "a ref that lacks its word", p, tyCell, "| 3")
	pair := tyOf(impl.TyPair, tyText, tyCells)
	p = waysProgram(pair, nil)
	wantObject(t, "a pair of places", p, pair, "@a @b b: @c c: 5 a: 1 65", "@a @b a: 1 65 b: @c c: 5")
	wantNoObject(t, "a pair of what is no text", p, pair, "@a @b b: @c c: 5 a: 1 -65")
	wantNoObject(t, "a pair of what is no ref", p, pair, "@a @b a: 1 65 | b: @a")
	wantNoObject(t, "a pair of what is a ref of none", p, pair, "@a @b b: -1 c: 5 a: 1 65")
	wantNoObject(t, "a pair of a ref of what is none", p, pair, "@a @b a: 1 65 b: @c | c: 5")
}

func TestFunsInTheHeap(t *testing.T) {
	type pair [2]string
	for _, c := range []struct {
		envs [][]impl.Ty
		good []pair // with what is moved
		bad  []string
	}{
		{[][]impl.Ty{nil}, []pair{{"0", "0"}, {"0 5", "0"}, {"0 | 5", "0"}}, []string{"-1", "-1 5 5", "1", "1 5 5", "2", "1000 5 5", "-1000 5 5", "| 0"}},
		{[][]impl.Ty{{tyInt}}, []pair{{"0 5", "0 5"}, {"0 -5 7", "0 -5"}}, []string{"0", "0 | 5", "-1 5", "1 5"}},
		{[][]impl.Ty{nil, {tyInt, tyText}}, []pair{{"0", "0"}, {"1 4 @a a: 1 65", "1 4 @a a: 1 65"}, {"1 @a @a a: 0", "1 ^a @a a: 0"}},
			[]string{"1", "1 4", "1 4 | @a a: 1 65", "1 4 @a | a: 1 65", "1 4 @a a: 1 -1", "1 @a -4 a: 0", "1 4 -1", "2", "2 4 @a a: 1 65", "-1 4 @a a: 1 65"}},
		{[][]impl.Ty{{tyText}, nil, {tyCell, tyInt, tyText}, nil}, []pair{{"0 @a a: 1 7", "0 @a a: 1 7"}, {"1", "1"}, {"1 5 5 5", "1"}, {"2 @a 7 @b b: 2 8 9 a: 6", "2 @a 7 @b a: 6 b: 2 8 9"}, {"3", "3"}, {"3 | 5 5 5", "3"}},
			[]string{"0", "0 -1", "2", "2 @a 7 | @b b: 2 8 9 a: 6", "2 @b 7 @c b: 2 8 9 c: -1", "2 -1 7 @b b: 0", "2 @a 7 @b b: 0 | a: 6", "4 @a 7 @b b: 2 8 9 a: 6", "4", "-1 @a 7 @b b: 2 8 9 a: 6"}},
	} {
		p := envsProgram([]impl.Layout{{Cons: [][]impl.Ty{nil}}}, c.envs...)
		for _, text := range c.good {
			for _, ty := range []impl.Ty{tyFun, tyOf(impl.TyFun, tyText, inRef(tyList)), tyOf(impl.TyFun, tyUnit, tyFun)} {
				wantMoved(t, "a fun", p, "x: "+text[0], []drawnRoot{rootAt(ty, "@x")}, "x: "+text[1], "@x")
				wantMoved(t, "a ref of a fun", p, "r: @x 9 x: "+text[0], []drawnRoot{rootAt(inRef(ty), "@r")}, "r: @x x: "+text[1], "@r")
			}
		}
		for _, text := range c.bad {
			wantStuck(t, "no fun", p, "x: "+text, rootAt(tyFun, "@x"))
			wantStuck(t, "a ref of no fun", p, "r: @x 9 x: "+text, rootAt(inRef(tyFun), "@r"))
			wantStuck(t, "a pair with no fun", p, "n: 5 r: 4 @x x: "+text, rootAt(tyCell, "@n"), rootAt(tyOf(impl.TyPair, tyInt, tyFun), "@r"))
		}
	}
}

// TestBlocksOfFuns: any block's number may stand ahead, of the first to the last, whatever the fun's type is.
func TestBlocksOfFuns(t *testing.T) {
	for _, count := range []int{1, 2, 20, impl.MaxBlocks} {
		for _, env := range [][]impl.Ty{nil, {tyInt}, slices.Repeat([]impl.Ty{tyInt}, impl.MaxHeld)} {
			p := envsProgram(nil, slices.Repeat([][]impl.Ty{env}, count)...)
			held := fmt.Sprint(" ", len(env), "*5")
			for _, number := range []int{-1, 0, 1, count / 2, count - 1, count, count + 1, math.MinInt, math.MaxInt} {
				text := fmt.Sprint("x: ", number, held)
				if number < 0 || number >= count {
					wantStuck(t, "no block", p, text, rootAt(tyFun, "@x"))
					continue
				}
				wantMoved(t, "a block", p, text, []drawnRoot{rootAt(tyFun, "@x")}, text, "@x")
				if len(env) > 0 {
					wantStuck(t, "a word too few", p, fmt.Sprint("x: ", number, " ", len(env)-1, "*5"), rootAt(tyFun, "@x"))
					wantStuck(t, "a word too few", p, fmt.Sprint("x: ", number, " ", len(env)-1, "*5 | 5"), rootAt(tyFun, "@x"))
				}
			}
		}
	}
}

// TestEnvsOfFuns: each of what a fun is closed over by its own type, in order.
func TestEnvsOfFuns(t *testing.T) {
	p := reaching()
	roots := []drawnRoot{rootAt(tyFun, "@f")}
	wantMoved(t, "an Env of an int and a text", p, "a: 2 7 8 f: 1 @a @a", roots, "f: 1 ^a @a a: 2 7 8", "@f")
	wantMoved(t, "an Env of a fun", p, "f: 2 @g g: 0", roots, "f: 2 @g g: 0", "@f")
	wantMoved(t, "an Env of a fun that has one", p, "f: 2 @g g: 2 @h h: 1 -9 @i i: 0", roots, "f: 2 @g g: 2 @h h: 1 -9 @i i: 0", "@f")
	wantMoved(t, "an Env of itself", p, "f: 2 @f", roots, "f: 2 @f", "@f")
	wantMoved(t, "an Env of four", p, "l: 1 5 @e e: 0 f: 3 @c 0 @l @p p: 6 @p c: @c", roots, "f: 3 @c 0 @l @p c: ^c l: 1 5 @e p: 6 ^p e: 0", "@f")
	wantStuck(t, "an Env of what is no list", p, "l: 1 5 -1 f: 3 @c 0 @l @p p: 6 @p c: @c", roots...)
	wantStuck(t, "an Env of what is no fun", p, "f: 2 @g g: 5", roots...)
}

func TestDatasInTheHeap(t *testing.T) {
	for _, c := range []struct {
		cons [][]impl.Ty
		good []string
		bad  []string
	}{
		{[][]impl.Ty{nil}, []string{"0", "0 7 | 7"}, []string{"-1", "-1 7 7 7", "1", "1 7 7 7", "2 7 7 7", "| 0"}},
		{[][]impl.Ty{{tyInt}}, []string{"0 7", "0 -7 8"}, []string{"0", "0 | 7", "-1 7", "1 7", "| 0 7"}},
		{[][]impl.Ty{{tyInt, tyUnit, tyInt}, nil}, []string{"0 7 7 7", "1", "1 7 7 7", "1 | 7 7 7"}, []string{"0", "0 7", "0 7 7", "0 7 7 | 7", "2", "2 7 7 7", "-1"}},
		{[][]impl.Ty{nil, nil, nil, nil, {tyInt, tyInt}}, []string{"0", "1", "2", "3", "4 7 7"}, []string{"4", "4 7", "4 7 | 7", "5", "5 7 7", "-1 7 7", "100 7 7"}},
		{[][]impl.Ty{{tyInt, tyInt}, {tyInt}, nil, {tyInt}, nil}, []string{"0 7 7", "1 7", "2", "3 7", "4"}, []string{"0 7", "1", "3 | 7", "5", "5 7 7 7", "-1 7 7 7"}},
	} {
		p := waysProgram(tyList, []impl.Layout{{Cons: c.cons}})
		for _, text := range c.good {
			own := drawn(text, 0, nil).words
			own = own[:1+len(c.cons[own[0]])]
			wantObject(t, "a data", p, tyList, text, strings.Trim(fmt.Sprint(own), "[]"))
		}
		for _, text := range c.bad {
			wantNoObject(t, "no data", p, tyList, text)
		}
		for _, far := range farNumbers {
			wantNoObject(t, "a data of a far constructor", p, tyList, strconv.Itoa(far)+" 7 7 7")
		}
	}
}

// TestDatasByTheirLayout: the same words are another object by another layout.
func TestDatasByTheirLayout(t *testing.T) {
	p := reaching()
	wantMoved(t, "each constructor", p, "t: 3 7 8 9 a: 0 @t b: 1 @a -4 @c c: 2 6 d: 3 @f @r @p f: 0 r: 7 p: 5 4 e: 4",
		[]drawnRoot{rootAt(tyMany, "@b"), rootAt(tyMany, "@d"), rootAt(tyMany, "@e")},
		"b: 1 @a -4 @c d: 3 @f @r @p e: 4 a: 0 @t c: 2 6 f: 0 r: 7 p: 5 4 t: 3 7 8 9", "@b @d @e")
	wantMoved(t, "a list", p, "a: 1 5 @b b: 0", []drawnRoot{rootAt(tyList, "@a")}, "a: 1 5 @b b: 0", "@a")
	wantStuck(t, "the same as another data", p, "a: 1 5 @b b: 0", rootAt(tyMany, "@a"))
	wantMoved(t, "the end of a list", p, "a: 0 9", []drawnRoot{rootAt(tyList, "@a")}, "a: 0", "@a")
	wantStuck(t, "the same as another data", p, "a: 0 -1", rootAt(tyMany, "@a"))
}

// TestPlacesOfObjects: each place in and around both halves, and far ones, of objects of one word, two and three.
func TestPlacesOfObjects(t *testing.T) {
	p := envsProgram([]impl.Layout{{Cons: [][]impl.Ty{{tyInt, tyInt}}}}, []impl.Ty{tyInt, tyInt})
	for _, low := range []int{0, 16} {
		for _, taken := range []int{0, 1, 2, 3, 4, 15, 16} {
			h := plainHeap(16, low, low+taken)
			for _, at := range append([]int{-3, -2, -1, 0, 1, 2, 3, 4, 12, 13, 14, 15, 16, 17, 18, 19, 20, 28, 29, 30, 31, 32, 33, 34}, farNumbers...) {
				for size, types := range map[int][]impl.Ty{1: {tyCell, tyText}, 2: {tyInts}, 3: {tyFun, tyList}} {
					for _, ty := range types {
						what := fmt.Sprintf("%s at %d, low %d, %d taken", rawText(ty), at, low, taken)
						roots := []impl.Root{{Ty: ty, V: at}}
						if at < low || at > low+taken-size {
							wantNone(t, what, p, h, roots)
						} else if got, list, ok := impl.Collect(p, h, roots); !ok || got.Next-got.Low != size || !slices.Equal(list, []int{16 - low}) {
							t.Errorf("%s: %v, %v, %s", what, ok, list, sayHalf(got))
						}
						if taken > 0 {
							// The same from within: the first word that was taken holds the place.
							from := plainHeap(16, low, low+taken)
							from.Words[low] = at
							wantCollectAsRaw(t, what+", from within", p, from, []impl.Root{{Ty: inRef(ty), V: low}})
						}
					}
				}
			}
		}
	}
}

// TestPlacesInTheOtherHalf: where an object stood once there is none, though its words are still there.
func TestPlacesInTheOtherHalf(t *testing.T) {
	p := reaching()
	for _, low := range []int{0, 16} {
		h := dirtyHeap(16, low, 5)
		copy(h.Words[low:], []int{2, 65, 66, 8, 8})
		copy(h.Words[16-low:], []int{2, 65, 66, 8, 8})
		for _, ty := range []impl.Ty{tyText, tyInts, tyCell} {
			if _, _, ok := impl.Collect(p, h, []impl.Root{{Ty: ty, V: low}}); !ok {
				t.Errorf("low %d: %s refused", low, rawText(ty))
			}
			wantNone(t, "the other half", p, h, []impl.Root{{Ty: ty, V: 16 - low}})
		}
		h.Words[low+3] = 16 - low
		wantNone(t, "the other half, from within", p, h, []impl.Root{{Ty: tyCells, V: low + 3}})
		got, list, ok := impl.Collect(p, h, []impl.Root{{Ty: tyText, V: low}})
		if !ok || !slices.Equal(list, []int{16 - low}) {
			t.Fatal("a text:", ok, list)
		}
		wantNone(t, "where it was moved from", p, got, []impl.Root{{Ty: tyText, V: low}})
	}
}
