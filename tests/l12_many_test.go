package tests

import (
	"fmt"
	"maps"
	"math"
	"slices"
	"strings"
	"sync"
	"testing"

	"loop.example/g00293/impl"
)

// rawWordTypes answers the types of all words of an object, those of numbers being ints; false, if there is none at that place.
func rawWordTypes(p impl.Program, h impl.Heap, ty impl.Ty, at int) ([]impl.Ty, bool) {
	if at < h.Low || at >= h.Next {
		return nil, false
	}
	words, types := h.Words[at:h.Next], []impl.Ty{tyInt}
	switch ty.Kind {
	case impl.TyPair, impl.TyRef:
		types = ty.Args
	case impl.TyText:
		if words[0] < 0 || words[0] > 60 {
			return nil, false
		}
		types = slices.Repeat(types, words[0]+1)
		if len(types) <= len(words) && slices.ContainsFunc(words[1:len(types)], func(word int) bool { return word != int(byte(word)) }) {
			return nil, false
		}
	case impl.TyFun:
		if words[0] < 0 || words[0] >= len(p.Blocks) {
			return nil, false
		}
		types = append(types, p.Blocks[words[0]].Env...)
	case impl.TyData:
		if words[0] < 0 || words[0] >= len(p.Layouts[ty.N].Cons) {
			return nil, false
		}
		types = append(types, p.Layouts[ty.N].Cons[words[0]]...)
	}
	return types, len(types) <= len(words)
}

// A rawFind is an object that was found: where it stood, how far into the other half it will stand, and the types of its words.
type rawFind struct {
	at    int
	off   int
	types []impl.Ty
}

// rawFinds are all objects that roots reach, in the order in which they are met: the document's order of moving.
func rawFinds(p impl.Program, h impl.Heap, roots []impl.Root) ([]rawFind, int, bool) {
	var finds []rawFind
	size, met := 0, map[int]bool{}
	for ahead := slices.Clone(roots); len(ahead) > 0; ahead = ahead[1:] {
		ty, at := ahead[0].Ty, ahead[0].V
		if !rawBoxed(ty) {
			continue
		}
		types, ok := rawWordTypes(p, h, ty, at)
		if !ok {
			return nil, 0, false
		}
		if met[at] {
			continue
		}
		met[at] = true
		finds = append(finds, rawFind{at, size, types})
		size += len(types)
		for i, part := range types {
			ahead = append(ahead, impl.Root{Ty: part, V: h.Words[at+i]})
		}
	}
	return finds, size, true
}

// rawCollect finds all objects first; only then, when it is known where each of them will stand, the other half is written.
func rawCollect(p impl.Program, h impl.Heap, roots []impl.Root) (impl.Heap, []int, bool) {
	if !rawProgramOk(p) || !impl.HeapOk(h) || len(roots) > 1000 {
		return impl.Heap{}, nil, false
	}
	for _, root := range roots {
		if !rawLowTy(root.Ty, len(p.Layouts)) {
			return impl.Heap{}, nil, false
		}
	}
	return rawMoved(p, h, roots)
}

// rawMoved is a collection, however many roots there are.
func rawMoved(p impl.Program, h impl.Heap, roots []impl.Root) (impl.Heap, []int, bool) {
	finds, size, ok := rawFinds(p, h, roots)
	if !ok || size > h.Half {
		return impl.Heap{}, nil, false
	}
	other := h.Half - h.Low
	place := map[int]int{}
	for _, find := range finds {
		place[find.at] = other + find.off
	}
	value := func(ty impl.Ty, v int) int {
		if rawBoxed(ty) {
			return place[v]
		}
		return v
	}
	got := impl.Heap{Words: make([]int, 2*h.Half), Half: h.Half, Low: other, Next: other + size, Log: h.Log}
	for _, find := range finds {
		for i, ty := range find.types {
			got.Words[other+find.off+i] = value(ty, h.Words[find.at+i])
		}
	}
	var values []int
	for _, root := range roots {
		values = append(values, value(root.Ty, root.V))
	}
	return got, values, true
}

func withValues(roots []impl.Root, values []int) []impl.Root {
	var list []impl.Root
	for i, root := range roots {
		list = append(list, impl.Root{Ty: root.Ty, V: values[i]})
	}
	return list
}

// wantCollectAsRaw holds Collect and Reach against the raw collection, and what comes against the promise; it answers whether it is true.
func wantCollectAsRaw(t *testing.T, what string, p impl.Program, h impl.Heap, roots []impl.Root) bool {
	t.Helper()
	want, wantValues, wantOk := rawCollect(p, h, roots)
	if !wantOk {
		wantNone(t, what, p, h, roots)
		return false
	}
	got, values, ok := impl.Collect(p, h, roots)
	if !ok || !sameHeap(got, want) || !slices.Equal(values, wantValues) {
		t.Errorf("%s: %v, %s, %.200v\nnot %s, %.200v", what, ok, sayHalf(got), values, sayHalf(want), wantValues)
		return true
	}
	size := want.Next - want.Low
	if n := impl.Reach(p, h, roots); n != size {
		t.Errorf("%s: Reach is %d, not %d", what, n, size)
	}
	wantOthersUnlike(t, what, roots, values)
	if !impl.HeapOk(got) || impl.LogInside(got) != impl.LogInside(h) {
		t.Errorf("%s: no heap that is HeapOk comes, or its log is another one", what)
	}
	again, valuesAgain, ok := impl.Collect(p, got, withValues(roots, values))
	if !ok {
		return true
	}
	if again.Low != h.Low || again.Next-again.Low != size || impl.Reach(p, got, withValues(roots, values)) != size {
		t.Errorf("%s: %d words, behind another collection %s", what, size, sayHalf(again))
	}
	wantOthersUnlike(t, what+", again", withValues(roots, values), valuesAgain)
	return true
}

// wantOthersUnlike: roots that were one place stay one, all others are unlike; what is no place is as it was.
func wantOthersUnlike(t *testing.T, what string, roots []impl.Root, values []int) {
	t.Helper()
	new, old := map[int]int{}, map[int]int{}
	for i, root := range roots {
		if !rawBoxed(root.Ty) {
			if values[i] != root.V {
				t.Errorf("%s: the number %d is %d", what, root.V, values[i])
			}
			continue
		}
		if _, ok := new[root.V]; !ok {
			new[root.V] = values[i]
		}
		if _, ok := old[values[i]]; !ok {
			old[values[i]] = root.V
		}
		if new[root.V] != values[i] || old[values[i]] != root.V {
			t.Errorf("%s: root %d: %d is %d, but %d is %d", what, i, root.V, values[i], old[values[i]], new[root.V])
		}
	}
}

// A heapMaker puts objects into a half, with words of nobody between them.
type heapMaker struct {
	*walk
	p     impl.Program
	low   int
	words []int
	made  map[string][]int // the places of the objects of each type, by its text
}

// value is one of that type; where it is a place there is an object, new or not.
func (m *heapMaker) value(ty impl.Ty, depth int) int {
	if !rawBoxed(ty) {
		return pick(m.walk, []int{0, 1, -1, m.below(100), m.low, m.low + m.below(20), math.MinInt, math.MaxInt})
	}
	text := rawText(ty)
	if old := m.made[text]; len(old) > 0 && (depth <= 0 || m.below(3) == 0) {
		return pick(m.walk, old)
	}
	for range m.below(3) {
		m.words = append(m.words, m.below(70)-5)
	}
	var words []int
	types := []impl.Ty{tyInt}
	switch ty.Kind {
	case impl.TyText:
		words = []int{pick(m.walk, []int{0, 1, m.below(9), m.below(9), 60})}
		for range words[0] {
			words = append(words, m.below(256))
		}
		types = nil
	case impl.TyPair, impl.TyRef:
		types = ty.Args
	case impl.TyFun:
		words = []int{m.below(len(m.p.Blocks))}
		types = m.p.Blocks[words[0]].Env
	case impl.TyData:
		words = []int{m.below(len(m.p.Layouts[ty.N].Cons))}
		types = m.p.Layouts[ty.N].Cons[words[0]]
	}
	at := len(m.words)
	m.made[text] = append(m.made[text], m.low+at)
	m.words = append(m.words, words...)
	first := len(m.words)
	m.words = append(m.words, make([]int, len(types))...)
	for i, part := range types {
		m.words[first+i] = m.value(part, depth-1)
	}
	return m.low + at
}

// someReached is a heap with objects of some types, and roots that reach them.
func (w *walk) someReached(depth int) (impl.Program, impl.Heap, []impl.Root) {
	for {
		p := w.someProgram()
		half := pick(w, []int{16, 20, 50, 100, 300, 1000, impl.MaxHalf})
		m := &heapMaker{walk: w, p: p, low: w.below(2) * half, made: map[string][]int{}}
		var roots []impl.Root
		for range w.below(12) {
			ty := w.someLow(1+w.below(5), len(p.Layouts))
			roots = append(roots, impl.Root{Ty: ty, V: m.value(ty, w.below(depth+1))})
		}
		if len(m.words) > half {
			continue
		}
		for range w.below(4) {
			if len(roots) > 0 {
				roots = slices.Insert(roots, w.below(len(roots)+1), pick(w, roots))
			}
		}
		h := withLog(dirtyHeap(half, m.low, min(half, len(m.words)+w.below(4))), logOf(w.below(9), half))
		copy(h.Words[m.low:], m.words)
		return p, h, roots
	}
}

// rawShown says what stands at a place by a type, as deep as told: what is reached, but not where it stands.
func rawShown(p impl.Program, h impl.Heap, ty impl.Ty, v int, depth int) string {
	if !rawBoxed(ty) {
		return fmt.Sprint(v)
	}
	types, ok := rawWordTypes(p, h, ty, v)
	if !ok {
		return "none"
	}
	if depth == 0 {
		return ".."
	}
	var parts []string
	for i, part := range types {
		parts = append(parts, rawShown(p, h, part, h.Words[v+i], depth-1))
	}
	return "(" + strings.Join(parts, " ") + ")"
}

// TestManyCollections: of objects that are as they must be; what is reached stays as it was.
func TestManyCollections(t *testing.T) {
	sizes := map[bool]int{}
	for seed := range 3000 {
		w := &walk{state: uint64(seed)}
		p, h, roots := w.someReached(6)
		what := fmt.Sprint("seed ", seed)
		if !wantCollectAsRaw(t, what, p, h, roots) {
			t.Errorf("%s: refused", what)
			continue
		}
		got, values, _ := impl.Collect(p, h, roots)
		sizes[got.Next-got.Low > 20]++
		for i, root := range roots {
			if was, is := rawShown(p, h, root.Ty, root.V, 6), rawShown(p, got, root.Ty, values[i], 6); was != is {
				t.Errorf("%s, root %d of %s: was %s, is %s", what, i, rawText(root.Ty), was, is)
			}
		}
		if _, _, ok := impl.Collect(p, got, withValues(roots, values)); !ok {
			t.Errorf("%s: another collection is refused", what)
		}
	}
	if sizes[true] < 800 || sizes[false] < 500 {
		t.Error("the test's own heaps:", sizes)
	}
}

// TestManyCollectionsOfWhatIsTurned: objects as they must be, but for one word, a root, or how many words were taken.
func TestManyCollectionsOfWhatIsTurned(t *testing.T) {
	count := map[bool]int{}
	for seed := range 5000 {
		w := &walk{state: uint64(seed)}
		p, h, roots := w.someReached(4)
		for range 1 + w.below(2) {
			switch w.below(4) {
			case 0:
				h.Next = h.Low + w.below(h.Next-h.Low+1)
			case 1:
				if len(roots) > 0 {
					roots[w.below(len(roots))].V += w.below(5) - 2
				}
			case 2:
				if len(roots) > 0 {
					root := pick(w, roots)
					root.Ty = w.someLow(3, len(p.Layouts))
					roots = append(roots, root)
				}
			default:
				if h.Next > h.Low {
					h.Words[h.Low+w.below(h.Next-h.Low)] += pick(w, []int{-1, 1, w.below(30) - 15, 61, 256, math.MinInt})
				}
			}
		}
		count[wantCollectAsRaw(t, fmt.Sprint("seed ", seed), p, h, roots)]++
	}
	if count[true] < 1000 || count[false] < 1000 {
		t.Error("the test's own heaps:", count)
	}
}

// shortTypes are such as words of a few numbers may be objects of, in a shortProgram.
var shortTypes = []impl.Ty{tyText, tyCell, tyInts, tyCells, tyList, tyFun, inRef(tyText), tyOf(impl.TyPair, tyInt, tyList), tyOf(impl.TyPair, tyFun, tyCell)}

func shortProgram() impl.Program {
	return envsProgram([]impl.Layout{{Cons: [][]impl.Ty{nil, {tyList}, {tyInt, tyText}}}}, nil, []impl.Ty{tyFun}, []impl.Ty{tyInt, tyCell})
}

// TestEveryShortHeap: all words of a few numbers, and all roots at all places, by two types.
func TestEveryShortHeap(t *testing.T) {
	p := shortProgram()
	count := map[bool]int{}
	for _, low := range []int{0, 16} {
		for code := range 4 * 4 * 4 {
			h := plainHeap(16, low, low+3)
			for i := range 3 {
				h.Words[low+i] = []int{0, 1, 2, low + (code+i)%3}[code>>(2*i)&3]
			}
			for at := range 9 {
				for i, one := range shortTypes {
					two := shortTypes[(i+code+at)%len(shortTypes)]
					roots := []impl.Root{{Ty: one, V: low + at%3}, {Ty: two, V: low + at/3}}
					count[wantCollectAsRaw(t, fmt.Sprintf("%v: %s at %d, %s at %d", h.Words[low:low+3], rawText(one), roots[0].V, rawText(two), roots[1].V), p, h, roots)]++
				}
			}
		}
	}
	if count[true] < 1000 || count[false] < 1000 {
		t.Error("the test's own heaps:", count)
	}
}

// TestManyWordsOfNobody: words that nobody made objects of, so that those that are some lie upon each other.
func TestManyWordsOfNobody(t *testing.T) {
	p := shortProgram()
	count := map[bool]int{}
	room := 0
	for seed := range 8000 {
		w := &walk{state: uint64(seed)}
		half := 16 + w.below(4)
		low := w.below(2) * half
		taken := half - w.below(2)*w.below(8)
		h := plainHeap(half, low, low+taken)
		for i := range h.Words {
			h.Words[i] = pick(w, []int{0, 1, 2, w.below(4), low + w.below(taken+1), low + w.below(taken+1), low + w.below(taken+1)})
		}
		var roots []impl.Root
		for range 1 + w.below(8) {
			root := impl.Root{Ty: pick(w, shortTypes), V: low + w.below(taken)}
			if _, ok := rawWordTypes(p, h, root.Ty, root.V); ok || w.below(20) == 0 {
				roots = append(roots, root)
			}
		}
		ok := wantCollectAsRaw(t, fmt.Sprint("seed ", seed), p, h, roots)
		count[ok]++
		if _, size, found := rawFinds(p, h, roots); found && size > half {
			room++
		}
	}
	if count[true] < 1000 || count[false] < 1000 || room < 50 {
		t.Error("the test's own heaps:", count, room)
	}
}

var spareRoot = impl.Root{Ty: spareTy, V: spareWord}

func isSpareRoot(root impl.Root) bool {
	return isSpareTy(root.Ty) && root.V == spareWord
}

func sameRoot(a impl.Root, b impl.Root) bool {
	return rawSame(a.Ty, b.Ty) && a.V == b.V
}

// roomyRoots answers roots in memory of their own, with filled room behind all lists.
func roomyRoots(roots []impl.Root) []impl.Root {
	list := withSpare(roots, spareRoot)
	for i, root := range list {
		list[i].Ty = roomyTy(root.Ty)
	}
	return list
}

func (r *roll) roots(list []impl.Root) {
	enrol(r, list, isSpareRoot)
	for _, root := range list {
		r.ty(root.Ty)
	}
}

func (r *roll) heap(h impl.Heap) {
	enrol(r, h.Words, func(word int) bool { return word == spareWord })
	enrol(r, h.Log, func(a impl.Access) bool { return a == spareAccess })
}

// A gathering is what Collect is called with, and may be refused.
type gathering struct {
	what  string
	p     impl.Program
	h     impl.Heap
	roots []impl.Root
}

// gatherings are of all kinds that are refused, and many that are not.
func gatherings() []gathering {
	p := reaching()
	var list []gathering
	for _, c := range append(goodHeaps(), badHeaps()...) {
		list = append(list, gathering{c.name, p, c.heap, []impl.Root{{Ty: tyInt, V: 4}, {Ty: tyList, V: c.heap.Low}}})
	}
	h, d := setting{half: 40, low: 40, pad: 2}.heap("a: 1 5 @b b: 1 6 @c u: 0 @x t: 1 @u 4 @t x: 3 65 66 67 c: 0 | 9 9")
	roots := d.roots([]drawnRoot{rootAt(tyList, "@a"), rootAt(tyMany, "@t"), rootAt(tyText, "@x"), rootAt(tyUnit, "0")})
	list = append(list,
		gathering{"all as it must be", p, h, roots},
		gathering{"no roots", p, h, nil},
		gathering{"no program", impl.Program{}, h, roots},
		gathering{"a root of no type", p, h, append(slices.Clone(roots), impl.Root{Ty: tyOf(impl.TyRef)})},
		gathering{"a root of no low type", p, h, append(slices.Clone(roots), impl.Root{Ty: tyData(2)})},
		gathering{"a root that is no object", p, h, append(slices.Clone(roots), impl.Root{Ty: tyList, V: 40})},
		gathering{"1000 roots", p, h, slices.Repeat(roots, 250)},
		gathering{"1001 roots", p, h, append(slices.Repeat(roots, 250), impl.Root{})})
	list = append(list, gathering{"no room", p, dirtyHeap(16, 16, 16), pairsAt(16, 9)}, gathering{"just room", p, dirtyHeap(16, 16, 16), pairsAt(16, 8)})
	for seed := range 150 {
		w := &walk{state: uint64(seed)}
		p, h, roots := w.someReached(4)
		list = append(list, gathering{fmt.Sprint("seed ", seed), p, h, roots})
	}
	return list
}

func (g gathering) collect() (impl.Heap, []int, bool) {
	return impl.Collect(g.p, g.h, g.roots)
}

// roomy answers g in memory of its own, with filled room behind all lists.
func (g gathering) roomy() gathering {
	return gathering{g.what, roomyProgram(g.p), roomyHeap(g.h), roomyRoots(g.roots)}
}

// TestCollectHasMemoryOfItsOwn: nothing is written into an argument nor behind its lists, what lies there is neither read nor
// handed out, and no two lists of what is answered are one, nor one of the arguments'.
func TestCollectHasMemoryOfItsOwn(t *testing.T) {
	for _, g := range gatherings() {
		plain, plainValues, plainOk := g.collect()
		arg := g.roomy()
		got, values, ok := arg.collect()
		other, otherValues, _ := arg.collect()
		reach := impl.Reach(arg.p, arg.h, arg.roots)
		if ok != plainOk || !sameHeap(got, plain) || !slices.Equal(values, plainValues) || !sameHeap(other, plain) || !slices.Equal(otherValues, plainValues) || reach != impl.Reach(g.p, g.h, g.roots) {
			t.Errorf("%s: what lies behind a list was read", g.what)
		}
		if slices.Contains(got.Words[:cap(got.Words)], spareWord) || slices.Contains(got.Log[:cap(got.Log)], spareAccess) || slices.Contains(values[:cap(values)], spareWord) {
			t.Errorf("%s: what lies behind a list was handed out", g.what)
		}
		all := newRoll()
		all.program(arg.p)
		all.heap(arg.h)
		all.roots(arg.roots)
		if all.spoilt || !sameProgram(arg.p, g.p) || !sameHeap(arg.h, g.h) || !slices.EqualFunc(arg.roots, g.roots, sameRoot) {
			t.Errorf("%s: an argument was changed", g.what)
		}
		for _, h := range []impl.Heap{got, other} {
			all.heap(h)
		}
		for _, list := range [][]int{values, otherValues} {
			enrol(all, list, func(int) bool { return true })
		}
		if all.shared {
			t.Errorf("%s: lists that share memory", g.what)
		}
		kept, keptValues := roomyHeap(got), slices.Clone(values)
		scribbleHeap(arg.h)
		spoilProgram(arg.p)
		for i := range arg.roots {
			arg.roots[i].V = spareWord
		}
		if !sameHeap(got, kept) || !slices.Equal(values, keptValues) {
			t.Errorf("%s: the answer changes with an argument", g.what)
		}
		scribbleHeap(got)
		for i := range values {
			values[i] = spareWord
		}
		again, valuesAgain, okAgain := g.collect()
		if okAgain != plainOk || !sameHeap(again, plain) || !slices.Equal(valuesAgain, plainValues) || !sameHeap(other, plain) {
			t.Errorf("%s: an answer was kept", g.what)
		}
	}
}

// TestCollectOfPartsThatShare: roots whose types are one list, which the program has, too.
func TestCollectOfPartsThatShare(t *testing.T) {
	types := []impl.Ty{tyText, tyText}
	pair := impl.Ty{Kind: impl.TyPair, Args: types}
	p := envsProgram([]impl.Layout{{Cons: [][]impl.Ty{types, types}}}, types, types)
	wantMoved(t, "one list of types", p, "p: @a @b d: 1 @b @a f: 0 @a @a a: 0 b: 1 5", []drawnRoot{rootAt(pair, "@p"), rootAt(tyData(0), "@d"), rootAt(tyFun, "@f"), rootAt(pair, "@p")},
		"p: @a @b d: 1 @b @a f: 0 @a @a a: 0 b: 1 5", "@p @d @f @p")
	h := plainHeap(16, 0, 4)
	h.Log = make([]impl.Access, 3, 9)
	other := h
	other.Low, other.Next = 16, 20
	for _, one := range []impl.Heap{h, other, h} {
		got, values, ok := impl.Collect(p, one, []impl.Root{{Ty: tyText, V: one.Low}, {Ty: tyText, V: one.Low + 2}})
		if !ok || got.Next-got.Low != 2 || !slices.Equal(values, []int{got.Low, got.Low + 1}) {
			t.Errorf("low %d: %v, %v, %s", one.Low, ok, values, sayHalf(got))
		}
		scribbleHeap(got)
	}
	if !filled(h.Words, 0) || !filled(h.Log[:9], impl.Access{}) {
		t.Error("what two heaps have was written")
	}
}

// TestCollectKeepsNothing: a call does the same however many others were made ahead of it, also such as ended too early.
func TestCollectKeepsNothing(t *testing.T) {
	list := gatherings()
	type answer struct {
		heap   impl.Heap
		values []int
		ok     bool
		reach  int
	}
	var first []answer
	for _, g := range list {
		heap, values, ok := g.collect()
		first = append(first, answer{heap, values, ok, impl.Reach(g.p, g.h, g.roots)})
	}
	w := &walk{state: 12}
	refused := 0
	for range 4000 {
		i := w.below(len(list))
		g, want := list[i], first[i]
		heap, values, ok := g.collect()
		if ok != want.ok || !sameHeap(heap, want.heap) || !slices.Equal(values, want.values) || impl.Reach(g.p, g.h, g.roots) != want.reach {
			t.Fatalf("%s: %v, %s, %v", g.what, ok, sayHalf(heap), values)
		}
		if !ok {
			refused++
		}
		if w.below(3) == 0 {
			scribbleHeap(heap)
		}
	}
	if refused < 100 {
		t.Error("the test's own calls:", refused)
	}
}

func TestCollectByManyAtOnce(t *testing.T) {
	list := gatherings()
	said := func(g gathering) string {
		h, values, ok := g.collect()
		return fmt.Sprint(h.Low, h.Next, h.Words, values, ok, impl.Reach(g.p, g.h, g.roots))
	}
	plain := map[int]string{}
	for i, g := range list {
		plain[i] = said(g)
	}
	var all sync.WaitGroup
	wrong := make([]int, 8)
	for worker := range wrong {
		all.Go(func() {
			for i := range maps.Keys(plain) {
				if said(list[i]) != plain[i] {
					wrong[worker]++
				}
			}
		})
	}
	all.Wait()
	if !filled(wrong, 0) {
		t.Error("wrong answers:", wrong)
	}
}
