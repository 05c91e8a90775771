package tests

import (
	"fmt"
	"slices"
	"strings"
	"testing"

	"loop.example/g00293/impl"
)

// TestReachedTwice: what was moved already stands where it was moved to.
func TestReachedTwice(t *testing.T) {
	p := reaching()
	for _, c := range []struct {
		text   string
		roots  []drawnRoot
		moved  string
		values string
	}{
		{"a: 7", []drawnRoot{rootAt(tyCell, "@a"), rootAt(tyCell, "@a")}, "a: 7", "@a @a"},
		{"a: 7 b: 8", []drawnRoot{rootAt(tyCell, "@b"), rootAt(tyCell, "@a"), rootAt(tyCell, "@b"), rootAt(tyCell, "@a")}, "b: 8 a: 7", "@b @a @b @a"},
		{"a: @b b: 7", []drawnRoot{rootAt(tyCells, "@a"), rootAt(tyCell, "@b")}, "a: @b b: 7", "@a @b"},
		{"a: @b b: 7", []drawnRoot{rootAt(tyCell, "@b"), rootAt(tyCells, "@a")}, "b: 7 a: @b", "@b @a"},
		{"b: 2 65 66 a: @b @b", []drawnRoot{rootAt(tyOf(impl.TyPair, tyText, tyText), "@a")}, "a: @b @b b: 2 65 66", "@a"},
		{"a: @c b: @c c: 1 9", []drawnRoot{rootAt(inRef(tyText), "@a"), rootAt(inRef(tyText), "@b")}, "a: @c b: @c c: 1 9", "@a @b"},
		{"e: 0 b: 1 2 @e a: 1 1 @b c: 1 3 @b", []drawnRoot{rootAt(tyList, "@a"), rootAt(tyList, "@c"), rootAt(tyList, "@b"), rootAt(tyList, "@e")}, "a: 1 1 @b c: 1 3 @b b: 1 2 @e e: 0", "@a @c @b @e"},
		{"f: 2 @g h: 2 @g g: 1 4 @t t: 0", []drawnRoot{rootAt(tyFun, "@f"), rootAt(tyFun, "@h"), rootAt(tyText, "@t")}, "f: 2 @g h: 2 @g t: 0 g: 1 4 @t", "@f @h @t"},
	} {
		wantMoved(t, c.text, p, c.text, c.roots, c.moved, c.values)
	}
}

// TestReachedByTwoTypes: the first type says how many words are moved, and what they are; by the second one it must be an object, too.
func TestReachedByTwoTypes(t *testing.T) {
	p := reaching()
	cellOfText := inRef(tyText)
	for _, c := range []struct {
		text   string
		first  impl.Ty
		second impl.Ty
		moved  string // with the other type first, if there are two
	}{
		{"a: 7 8", tyCell, tyInts, "a: 7|a: 7 8"},
		{"a: 1 65", tyText, tyCell, "a: 1 65|a: 1"},
		{"a: 0", tyText, tyCell, "a: 0|a: 0"},
		{"a: 2 65 66", tyText, tyInts, "a: 2 65 66|a: 2 65"},
		{"a: @b b: 7", tyCell, tyCells, "a: ^b|a: @b b: 7"},
		{"a: @b 5 b: 7", tyOf(impl.TyPair, tyCell, tyInt), tyInts, "a: @b 5 b: 7|a: ^b 5"},
		{"a: @b @c b: 7 c: 8", tyOf(impl.TyPair, tyCell, tyInt), tyOf(impl.TyPair, tyInt, tyCell), "a: @b ^c b: 7|a: ^b @c c: 8"},
		{"a: @b b: 1 65", tyCells, cellOfText, "a: @b b: 1|a: @b b: 1 65"},
		{"a: 0 5 5", tyList, tyFun, "a: 0|a: 0"},
		{"a: 1 5 @b b: 0", tyList, tyFun, "a: 1 5 @b b: 0|a: 1 5 @b b: 0"},
		{"a: 1 5 @b b: 0", tyList, tyInts, "a: 1 5 @b b: 0|a: 1 5"},
	} {
		moved := strings.Split(c.moved, "|")
		wantMoved(t, c.text, p, c.text, []drawnRoot{rootAt(c.first, "@a"), rootAt(c.second, "@a")}, moved[0], "@a @a")
		wantMoved(t, c.text+", the other way", p, c.text, []drawnRoot{rootAt(c.second, "@a"), rootAt(c.first, "@a")}, moved[1], "@a @a")
		// From within: both roots are moved ahead of what they hold.
		refs := "r: @a s: @a " + c.text
		wantMoved(t, c.text+", from within", p, refs, []drawnRoot{rootAt(inRef(c.first), "@r"), rootAt(inRef(c.second), "@s")}, "r: @a s: @a "+moved[0], "@r @s")
		wantMoved(t, c.text+", by a root and from within", p, refs, []drawnRoot{rootAt(inRef(c.first), "@r"), rootAt(c.second, "@a")}, "r: @a "+moved[1], "@r @a")
	}
	for _, c := range []struct {
		text  string
		types []impl.Ty
	}{
		{"a: 7", []impl.Ty{tyCell, tyInts}},
		{"a: 7 | 8", []impl.Ty{tyCell, tyInts}},
		{"a: 7 8", []impl.Ty{tyInts, tyText}},
		{"a: 61 60*65", []impl.Ty{tyCell, tyText}},
		{"a: 1 256", []impl.Ty{tyInts, tyText}},
		{"a: -1 5", []impl.Ty{tyInts, tyFun}},
		{"a: 5 5", []impl.Ty{tyInts, tyFun}},
		{"a: 2 5 5", []impl.Ty{tyText, tyList}},
		{"a: 1 5", []impl.Ty{tyText, tyList}},
	} {
		one, two := rootAt(c.types[0], "@a"), rootAt(c.types[1], "@a")
		wantStuck(t, c.text, p, c.text, one, two)
		wantStuck(t, c.text, p, c.text, two, one)
		refs := "r: @a s: @a " + c.text
		wantStuck(t, c.text+", from within", p, refs, rootAt(inRef(c.types[0]), "@r"), rootAt(inRef(c.types[1]), "@s"))
		wantStuck(t, c.text+", by a root and from within", p, refs, one, rootAt(inRef(c.types[1]), "@s"))
	}
}

// TestByWhateverType: of what was moved already the parts are those of the first type alone. What the second one
// says of them moves nothing, and is not asked.
func TestByWhateverType(t *testing.T) {
	p := reaching()
	roots := []drawnRoot{rootAt(tyCell, "@a"), rootAt(inRef(tyText), "@a")}
	wantMoved(t, "a part that is a text", p, "a: @b b: 1 65", roots, "a: ^b", "@a @a")
	wantMoved(t, "a part that is none", p, "a: -5", roots, "a: -5", "@a @a")
	wantStuck(t, "a part that is none, first", p, "a: -5", roots[1], roots[0])
}

func TestWhatReachesItself(t *testing.T) {
	p := reaching()
	wantMoved(t, "a ref", p, "a: @a", []drawnRoot{rootAt(tyCells, "@a")}, "a: @a", "@a")
	wantMoved(t, "a ref, by many refs", p, "a: @a", []drawnRoot{rootAt(refs(impl.MaxDepth, tyInt), "@a")}, "a: @a", "@a")
	wantMoved(t, "a pair", p, "a: @a @a", []drawnRoot{rootAt(tyOf(impl.TyPair, tyInts, tyInts), "@a")}, "a: @a @a", "@a")
	wantMoved(t, "a fun", p, "f: 2 @f", []drawnRoot{rootAt(tyFun, "@f"), rootAt(tyFun, "@f")}, "f: 2 @f", "@f @f")
	wantMoved(t, "two funs", p, "f: 2 @g g: 2 @f", []drawnRoot{rootAt(tyFun, "@g"), rootAt(tyFun, "@f")}, "g: 2 @f f: 2 @g", "@g @f")
	wantMoved(t, "a list without an end", p, "a: 1 5 @a", []drawnRoot{rootAt(tyList, "@a")}, "a: 1 5 @a", "@a")
	wantMoved(t, "a ring of three", p, "a: 1 5 @b c: 1 7 @a b: 1 6 @c", []drawnRoot{rootAt(tyList, "@b")}, "b: 1 6 @c c: 1 7 @a a: 1 5 @b", "@b")
	wantMoved(t, "a ring behind a beginning", p, "a: 1 5 @b c: 1 7 @b b: 1 6 @c", []drawnRoot{rootAt(tyList, "@a")}, "a: 1 5 @b b: 1 6 @c c: 1 7 @b", "@a")
	wantMoved(t, "a tree of itself", p, "a: 1 @a 3 @b b: 1 @b 4 @a", []drawnRoot{rootAt(tyMany, "@a")}, "a: 1 @a 3 @b b: 1 @b 4 @a", "@a")
}

// TestObjectsThatShareWords: each of them has its words behind the collection, since none of them is the place of another one.
func TestObjectsThatShareWords(t *testing.T) {
	p := reaching()
	wantMoved(t, "a ref in a pair", p, "a: 7 b: 8", []drawnRoot{rootAt(tyInts, "@a"), rootAt(tyCell, "@b")}, "a: 7 8 b: 8", "@a @b")
	wantMoved(t, "a ref in a pair, first", p, "a: 7 b: 8", []drawnRoot{rootAt(tyCell, "@b"), rootAt(tyInts, "@a")}, "b: 8 a: 7 8", "@b @a")
	wantMoved(t, "pairs", p, "a: 7 b: 8 c: 9 10", []drawnRoot{rootAt(tyInts, "@a"), rootAt(tyInts, "@b"), rootAt(tyInts, "@c")}, "a: 7 8 b: 8 9 c: 9 10", "@a @b @c")
	wantMoved(t, "texts", p, "a: 3 b: 2 c: 1 d: 0", []drawnRoot{rootAt(tyText, "@a"), rootAt(tyText, "@b"), rootAt(tyText, "@d"), rootAt(tyText, "@c")}, "a: 3 2 1 0 b: 2 1 0 d: 0 c: 1 0", "@a @b @d @c")
	wantMoved(t, "what lies within itself", p, "a: @b b: @b", []drawnRoot{rootAt(tyOf(impl.TyPair, tyCell, tyCell), "@a")}, "a: @b @b b: ^b", "@a")
	wantMoved(t, "a text within pairs", p, "a: 1 b: 1 c: 1 d: 0 @b", []drawnRoot{rootAt(tyInts, "@c"), rootAt(tyOf(impl.TyPair, tyInt, tyText), "@d")}, "c: 1 0 d: 0 @b b: 1 1", "@c @d")
	wantMoved(t, "a list within itself", p, "a: 1 b: 0 @b", []drawnRoot{rootAt(tyList, "@a")}, "a: 1 0 @b b: 0", "@a")
	wantMoved(t, "a ref within a fun", p, "f: 1 @f g: @h h: 0", []drawnRoot{rootAt(tyFun, "@f"), rootAt(inRef(tyText), "@g")}, "f: 1 ^f @h g: @h h: 0", "@f @g")
}

// TestOrderOfObjects: the roots as they come; then what they hold, object by object, the parts of each as they come.
func TestOrderOfObjects(t *testing.T) {
	p := reaching()
	cells, texts := tyOf(impl.TyPair, tyCell, tyCell), tyOf(impl.TyPair, tyText, tyText)
	wantMoved(t, "pairs of refs", p, "a: 1 b: 2 c: 3 d: 4 p: @d @c q: @b @a", []drawnRoot{rootAt(cells, "@q"), rootAt(cells, "@p")}, "q: @b @a p: @d @c b: 2 a: 1 d: 4 c: 3", "@q @p")
	wantMoved(t, "the same, of other kinds", p, "t: 1 65 u: 2 66 67 r: 5 p: @u @t q: @r s: 6", []drawnRoot{rootAt(tyInt, "7"), rootAt(tyCells, "@q"), rootAt(texts, "@p"), rootAt(tyUnit, "0"), rootAt(tyCell, "@s")}, "q: @r p: @u @t s: 6 r: 5 u: 2 66 67 t: 1 65", "7 @q @p 0 @s")
	wantMoved(t, "a root that another one holds", p, "a: 1 b: @a c: @b", []drawnRoot{rootAt(inRef(tyCells), "@c"), rootAt(tyCell, "@a")}, "c: @b a: 1 b: @a", "@c @a")
	tree := "a: 1 @b 10 @c b: 1 @d 20 @e c: 1 @f 30 @g d: 1 @h 40 @h e: 2 5 f: 0 @t g: 3 @k @r @i h: 4 t: 1 65 k: 0 r: 6 i: 7 8"
	wantMoved(t, "a tree, level by level", p, tree, []drawnRoot{rootAt(tyMany, "@a")}, tree, "@a")
	wantMoved(t, "a tree, from two roots", p, tree, []drawnRoot{rootAt(tyMany, "@c"), rootAt(tyMany, "@b")},
		"c: 1 @f 30 @g b: 1 @d 20 @e f: 0 @t g: 3 @k @r @i d: 1 @h 40 @h e: 2 5 t: 1 65 k: 0 r: 6 i: 7 8 h: 4", "@c @b")
	wantMoved(t, "a branch", p, tree, []drawnRoot{rootAt(tyMany, "@g")}, "g: 3 @k @r @i k: 0 r: 6 i: 7 8", "@g")
	wantMoved(t, "as many as 1000 roots", p, "a: 1 b: 2 c: 3", slices.Repeat([]drawnRoot{rootAt(tyCell, "@c"), rootAt(tyCell, "@a")}, 500), "c: 3 a: 1", strings.Repeat("@c @a ", 500))
}

// listDrawn is a list of so many, in that order of places, with its end behind them.
func listDrawn(order []int) string {
	var text strings.Builder
	for _, i := range order {
		fmt.Fprintf(&text, "l%d: 1 %d @l%d ", i, i, i+1)
	}
	fmt.Fprintf(&text, "l%d: 0", len(order))
	return text.String()
}

func upTo(n int) []int {
	list := make([]int, n)
	for i := range list {
		list[i] = i
	}
	return list
}

// TestLongChains: as long as the greatest half takes, whichever way they lie.
func TestLongChains(t *testing.T) {
	p := reaching()
	for _, count := range []int{0, 1, 5, 200, 1365} {
		forward := upTo(count)
		backward := slices.Clone(forward)
		slices.Reverse(backward)
		mixed := slices.Clone(forward)
		w := &walk{state: 5}
		for i := range mixed {
			other := w.below(i + 1)
			mixed[i], mixed[other] = mixed[other], mixed[i]
		}
		for _, order := range [][]int{forward, backward, mixed} {
			wantMoved(t, fmt.Sprint("a list of ", count), p, listDrawn(order), []drawnRoot{rootAt(tyList, "@l0")}, listDrawn(forward), "@l0")
		}
	}
	chain := "c0: @c1 c1: @c2 c2: @c3 c3: @c4 c4: @c5 c5: @c6 c6: @c7 c7: @c8 c8: 77"
	wantMoved(t, "a chain of refs", p, chain, []drawnRoot{rootAt(refs(impl.MaxDepth, tyInt), "@c0")}, chain, "@c0")
	wantMoved(t, "a beginning of it", p, chain, []drawnRoot{rootAt(refs(3, tyInt), "@c0")}, "c0: @c1 c1: ^c2", "@c0")
}

// pairsAt are roots of pairs at so many places, each a word behind the one ahead.
func pairsAt(low int, count int) []impl.Root {
	var roots []impl.Root
	for i := range count {
		roots = append(roots, impl.Root{Ty: tyInts, V: low + i})
	}
	return roots
}

// TestNoRoom: objects that lie upon each other may be more than a half takes, by a word or by many.
func TestNoRoom(t *testing.T) {
	p := reaching()
	for _, half := range []int{16, 17, 18, 99} {
		for _, low := range []int{0, half} {
			h := dirtyHeap(half, low, half)
			for count := range half - 2 {
				for cells := range 3 {
					roots := pairsAt(low, count)
					for i := range cells {
						roots = append(roots, impl.Root{Ty: tyCell, V: low + half - 1 - i})
					}
					what, size := fmt.Sprintf("half %d, low %d: %d pairs, %d refs", half, low, count, cells), 2*count+cells
					if size > half {
						wantNone(t, what, p, h, roots)
					} else if got, _, ok := impl.Collect(p, h, roots); !ok || got.Next != half-low+size || impl.Reach(p, h, roots) != size {
						t.Errorf("%s: %v, %s", what, ok, sayHalf(got))
					}
				}
			}
		}
	}
}

// TestNoRoomFromWithin: what the roots reach is just as great as a half, or more.
func TestNoRoomFromWithin(t *testing.T) {
	p := reaching()
	for _, low := range []int{0, 16} {
		h, d := setting{half: 16, low: low}.heap("t: 7 5*65 u: 2 66 v: 66 w: 0 a: @t b: @u c: @v p: @b 9 9")
		// The ref and the pair have 3 words, the texts that they reach 8 and 3, the ref of the second one 1.
		least := []drawnRoot{rootAt(inRef(tyText), "@a"), rootAt(tyOf(impl.TyPair, inRef(tyText), tyInt), "@p")}
		for _, c := range []struct {
			more []drawnRoot
			size int
		}{
			{nil, 15},
			{[]drawnRoot{rootAt(tyInt, "5"), rootAt(tyText, "@u"), rootAt(inRef(tyText), "@b")}, 15},
			{[]drawnRoot{rootAt(tyText, "@w")}, 16},
			{[]drawnRoot{rootAt(tyText, "@w"), rootAt(tyText, "@w"), rootAt(tyText, "@u")}, 16},
			{[]drawnRoot{rootAt(tyCell, "@v")}, 16},
			{[]drawnRoot{rootAt(tyText, "@w"), rootAt(tyCell, "@v")}, 17},
			{[]drawnRoot{rootAt(tyInts, "@w")}, 17},
			{[]drawnRoot{rootAt(tyCells, "@c")}, 17},
		} {
			for _, roots := range [][]drawnRoot{append(slices.Clone(least), c.more...), append(slices.Clone(c.more), least...)} {
				want := c.size
				if want > 16 {
					want = -1
				}
				if n := impl.Reach(p, h, d.roots(roots)); n != want {
					t.Errorf("low %d: %v: %d words, not %d", low, c.more, n, want)
				}
				wantCollectAsRaw(t, fmt.Sprint("low ", low, ": ", c.more), p, h, d.roots(roots))
			}
		}
	}
}

// TestNoRoomInTheGreatestHalf: a list that fills it, and one word more.
func TestNoRoomInTheGreatestHalf(t *testing.T) {
	p := reaching()
	for _, low := range []int{0, impl.MaxHalf} {
		h, d := setting{half: impl.MaxHalf, low: low}.heap(listDrawn(upTo(1365)))
		list := impl.Root{Ty: tyList, V: d.names["l0"]}
		inside := impl.Root{Ty: tyCell, V: d.names["l7"] + 1}
		if n := impl.Reach(p, h, []impl.Root{list}); n != impl.MaxHalf {
			t.Errorf("low %d: %d words", low, n)
		}
		if n := impl.Reach(p, h, []impl.Root{list, {Ty: tyList, V: d.names["l7"]}, list}); n != impl.MaxHalf {
			t.Errorf("low %d: %d words, reached by several roots", low, n)
		}
		if n := impl.Reach(p, h, []impl.Root{list, {Ty: tyCell, V: d.names["l7"]}}); n != 7*3+1 {
			t.Errorf("low %d: %d words up to what is moved as a ref", low, n)
		}
		wantNone(t, "a word more", p, h, []impl.Root{list, inside})
		wantNone(t, "a word more, first", p, h, []impl.Root{inside, list})
		list.V = d.names["l1"]
		if n := impl.Reach(p, h, []impl.Root{list, inside}); n != impl.MaxHalf-2 {
			t.Errorf("low %d: %d words without the first three", low, n)
		}
	}
}

// TestObjectsOfManyWords: an Env of MaxHeld, places and numbers by turns.
func TestObjectsOfManyWords(t *testing.T) {
	env := slices.Repeat([]impl.Ty{tyInt, tyText, tyUnit, tyFun, inRef(tyList)}, impl.MaxHeld/5)
	p := envsProgram([]impl.Layout{{Cons: [][]impl.Ty{nil}}}, nil, env)
	text := "f: 1 " + strings.Repeat("-3 @t 0 @g @r ", impl.MaxHeld/5)
	reached := " t: 60 60*9 g: 0 r: @e e: 0"
	wantMoved(t, "a fun", p, "e: 0 g: 0 r: @e t: 60 60*9 "+text, []drawnRoot{rootAt(tyFun, "@f")}, text+reached, "@f")
	wantMoved(t, "two funs", p, text+"e: 0 g: 1 "+strings.Repeat("7 @t @t @f @r ", impl.MaxHeld/5)+"r: @e t: 60 60*9", []drawnRoot{rootAt(tyFun, "@f")},
		text+" t: 60 60*9 g: 1 "+strings.Repeat("7 @t ^t @f @r ", impl.MaxHeld/5)+"r: @e e: 0", "@f")
	wantStuck(t, "a word too few", p, "e: 0 g: 0 r: @e t: 60 60*9 "+strings.TrimSuffix(text, "@r "), rootAt(tyFun, "@f"))
	wantStuck(t, "the last part is none", p, "e: 0 g: 0 r: @e t: 60 60*9 "+strings.TrimSuffix(text, "@r ")+"-1", rootAt(tyFun, "@f"))
}

// TestASecondCollection: what roots of two types reach may be no object of the second one any more; then it is false.
func TestASecondCollection(t *testing.T) {
	p := reaching()
	for _, low := range []int{0, 16} {
		h, d := setting{half: 16, low: low}.heap("a: 7 8 9 b: 5 6")
		for _, c := range []struct {
			roots []drawnRoot
			size  int
			again bool
		}{
			{[]drawnRoot{rootAt(tyCell, "@a"), rootAt(tyInts, "@a")}, 1, false},
			{[]drawnRoot{rootAt(tyInts, "@a"), rootAt(tyCell, "@a")}, 2, true},
			{[]drawnRoot{rootAt(tyCell, "@a"), rootAt(tyInts, "@a"), rootAt(tyCell, "@b")}, 2, true},
			{[]drawnRoot{rootAt(tyCell, "@b"), rootAt(tyCell, "@a"), rootAt(tyInts, "@a")}, 2, false},
		} {
			roots := d.roots(c.roots)
			got, list, ok := impl.Collect(p, h, roots)
			if !ok || got.Next-got.Low != c.size {
				t.Errorf("low %d: %v, %s", low, ok, sayHalf(got))
			}
			again, listAgain, ok := impl.Collect(p, got, withValues(roots, list))
			if ok != c.again || ok && (again.Next-again.Low != c.size || again.Low != low || len(listAgain) != len(list)) {
				t.Errorf("low %d, again: %v, %s", low, ok, sayHalf(again))
			}
		}
	}
}

// TestCollectAgainAndAgain: the halves by turns, with nothing new in them.
func TestCollectAgainAndAgain(t *testing.T) {
	p := reaching()
	text := "7 7 c: 1 7 @b t: 1 @u 4 @t a: 1 5 @b b: 1 6 @c u: 0 @x x: 3 65 66 67"
	h, d := setting{half: 40, low: 40}.heap(text)
	roots := d.roots([]drawnRoot{rootAt(tyMany, "@t"), rootAt(tyInt, "3"), rootAt(tyList, "@a"), rootAt(tyList, "@a")})
	h, list, ok := impl.Collect(p, h, roots)
	first := slices.Clone(h.Words[h.Low:h.Next])
	for i := range 20 {
		low := 40 * (i % 2)
		want := drawn("t: 1 @u 4 @t a: 1 5 @b u: 0 @x b: 1 6 @c x: 3 65 66 67 c: 1 7 @b", low, nil)
		if !ok || h.Low != low || !slices.Equal(h.Words[h.Low:h.Next], want.words) || len(want.words) != len(first) || !filled(h.Words[40-low:80-low], 0) {
			t.Fatalf("collection %d: %v, %s", i, ok, sayHalf(h))
		}
		if !slices.Equal(list, []int{want.names["t"], 3, want.names["a"], want.names["a"]}) {
			t.Fatalf("collection %d: %v", i, list)
		}
		h, list, ok = impl.Collect(p, h, withValues(roots, list))
	}
}

// TestAllocBehindACollection: what is left of a half is free again, and 0.
func TestAllocBehindACollection(t *testing.T) {
	p := reaching()
	for _, low := range []int{0, 16} {
		h, d := setting{half: 16, low: low}.heap("9 9 9 9 9 a: 3 65 66 67 9 9 9 9 9 9 9")
		if impl.HeapRoom(h) != 0 {
			t.Fatal("the test's own heap")
		}
		roots := d.roots([]drawnRoot{rootAt(tyText, "@a")})
		got, list, ok := impl.Collect(p, h, roots)
		if !ok || impl.HeapRoom(got) != 12 {
			t.Fatalf("low %d: %v, %s", low, ok, sayHalf(got))
		}
		got, at, ok := impl.Alloc(got, 12)
		if !ok || at != 16-low+4 || !filled(got.Words[at:at+12], 0) {
			t.Errorf("low %d: Alloc: %d, %v", low, at, ok)
		}
		for off := range 4 {
			var v int
			if got, v, ok = impl.Load(got, list[0], off); !ok || v != []int{3, 65, 66, 67}[off] {
				t.Errorf("low %d: Load of %d: %d, %v", low, off, v, ok)
			}
		}
	}
}

// TestLogStays: of any length and content, and inside where it was.
func TestLogStays(t *testing.T) {
	p := reaching()
	for _, count := range []int{0, 1, 77, impl.MaxLog - 1, impl.MaxLog} {
		for _, low := range []int{0, 16} {
			h := withLog(plainHeap(16, low, low+9), logOf(count, 16))
			got, _, ok := impl.Collect(p, h, []impl.Root{{Ty: tyText, V: low}})
			if !ok || !slices.Equal(got.Log, h.Log) || !impl.LogInside(got) {
				t.Errorf("low %d, %d accesses: %v, %d", low, count, ok, len(got.Log))
			}
			for _, a := range strayCases() {
				h.Log = append(logOf(count/2, 16), a)
				if got, _, ok := impl.Collect(p, h, nil); !ok || !slices.Equal(got.Log, h.Log) || impl.LogInside(got) {
					t.Errorf("low %d, %v: %v", low, a, ok)
				}
			}
		}
	}
}
