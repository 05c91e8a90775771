package tests

import (
	"math"
	"slices"
	"testing"

	"loop.example/g00293/impl"
)

// spareWord and spareAccess fill the room behind a heap's lists, so that a write there shows.
const spareWord = 0x5EE5

var spareAccess = impl.Access{At: spareWord, Low: spareWord, High: spareWord}

const spareCount = 80

// farNumbers are places and offs that no heap has; sums of two of them may not fit.
var farNumbers = []int{math.MinInt, math.MinInt + 1, math.MinInt / 2, -1 << 40, -1, 1 << 40, math.MaxInt / 2, math.MaxInt - 16, math.MaxInt - 1, math.MaxInt}

func withSpare[T any](list []T, spare T) []T {
	whole := slices.Repeat([]T{spare}, len(list)+spareCount)
	copy(whole, list)
	return whole[:len(list)]
}

// roomyHeap answers h in memory of its own, with filled room behind both lists.
func roomyHeap(h impl.Heap) impl.Heap {
	h.Words = withSpare(h.Words, spareWord)
	h.Log = withSpare(h.Log, spareAccess)
	return h
}

func sameHeap(a impl.Heap, b impl.Heap) bool {
	return a.Half == b.Half && a.Low == b.Low && a.Next == b.Next &&
		slices.Equal(a.Words, b.Words) && slices.Equal(a.Log, b.Log)
}

func isZeroHeap(h impl.Heap) bool {
	return sameHeap(h, impl.Heap{})
}

func filled[T comparable](list []T, with T) bool {
	return !slices.ContainsFunc(list, func(x T) bool { return x != with })
}

// wantUntouched tells whether a roomy heap is as it was, and the room behind its lists, too.
func wantUntouched(t *testing.T, what string, roomy impl.Heap, was impl.Heap) {
	t.Helper()
	if !sameHeap(roomy, was) {
		t.Errorf("%s: the argument was changed", what)
	}
	if !filled(roomy.Words[len(roomy.Words):cap(roomy.Words)], spareWord) {
		t.Errorf("%s: the room behind Words was written", what)
	}
	if !filled(roomy.Log[len(roomy.Log):cap(roomy.Log)], spareAccess) {
		t.Errorf("%s: the room behind Log was written", what)
	}
}

// scribbleHeap writes over all that can be reached by a heap's lists.
func scribbleHeap(h impl.Heap) {
	words, log := h.Words[:cap(h.Words)], h.Log[:cap(h.Log)]
	for i := range words {
		words[i] = ^words[i]
	}
	for i := range log {
		log[i].At, log[i].Low, log[i].High = ^log[i].At, ^log[i].Low, ^log[i].High
	}
}

// apart calls do with a roomy heap, and looks that the argument stays as it is and that the answer has memory of its own.
func apart(t *testing.T, what string, h impl.Heap, do func(impl.Heap) impl.Heap) {
	t.Helper()
	arg := roomyHeap(h)
	was := roomyHeap(h)
	got := do(arg)
	wantUntouched(t, what, arg, was)
	kept := roomyHeap(got)
	scribbleHeap(arg)
	if !sameHeap(got, kept) {
		t.Errorf("%s: the answer changes with the argument", what)
	}
	arg = roomyHeap(h)
	got = do(arg)
	scribbleHeap(got)
	wantUntouched(t, what+", the answer written over", arg, was)
}

// dirtyHeap is a heap none of whose words is 0, not even those that were not taken.
func dirtyHeap(half int, low int, taken int) impl.Heap {
	h := impl.Heap{Words: make([]int, 2*half), Half: half, Low: low, Next: low + taken}
	for i := range h.Words {
		h.Words[i] = -1000 - i
	}
	return h
}

// logOf are count accesses that differ and lie inside of half.
func logOf(count int, half int) []impl.Access {
	log := make([]impl.Access, count)
	for i := range log {
		low := i % 2 * half
		high := low + 1 + i%half
		log[i] = impl.Access{At: low + i%(high-low), Low: low, High: high}
	}
	return log
}

func withLog(h impl.Heap, log []impl.Access) impl.Heap {
	h.Log = log
	return h
}

func withWords(h impl.Heap, count int) impl.Heap {
	h.Words = make([]int, count)
	return h
}

type heapCase struct {
	name string
	heap impl.Heap
}

func plainHeap(half int, low int, next int) impl.Heap {
	return impl.Heap{Words: make([]int, max(0, 2*half)), Half: half, Low: low, Next: next}
}

func goodHeaps() []heapCase {
	return []heapCase{
		{"the least half", plainHeap(impl.MinHalf, 0, 0)},
		{"the greatest half", plainHeap(impl.MaxHalf, 0, 0)},
		{"the first half in part", plainHeap(20, 0, 7)},
		{"the first half all taken", plainHeap(20, 0, 20)},
		{"the second half empty", plainHeap(20, 20, 20)},
		{"the second half in part", plainHeap(20, 20, 31)},
		{"the second half all taken", plainHeap(20, 20, 40)},
		{"the greatest half, second, all taken", plainHeap(impl.MaxHalf, impl.MaxHalf, 2*impl.MaxHalf)},
		{"words that are not 0", dirtyHeap(16, 16, 5)},
		{"a log", withLog(plainHeap(16, 0, 3), logOf(9, 16))},
		{"a log of MaxLog", withLog(plainHeap(16, 16, 19), logOf(impl.MaxLog, 16))},
		{"a log that lies outside", withLog(plainHeap(16, 0, 3), []impl.Access{{At: -5, Low: 7, High: 99}})},
	}
}

func badHeaps() []heapCase {
	return []heapCase{
		{"the zero value", impl.Heap{}},
		{"half one too small", plainHeap(impl.MinHalf-1, 0, 0)},
		{"half one too great", plainHeap(impl.MaxHalf+1, 0, 0)},
		{"half below 0", plainHeap(-16, 0, 0)},
		{"half at the low end", impl.Heap{Half: math.MinInt, Low: math.MinInt}},
		{"half at the high end", impl.Heap{Half: math.MaxInt, Low: math.MaxInt}},
		{"half whose double is 32 words", impl.Heap{Words: make([]int, 32), Half: math.MinInt + 16}},
		{"one word too few", withWords(plainHeap(16, 0, 0), 31)},
		{"one word too many", withWords(plainHeap(16, 0, 0), 33)},
		{"as many words as half", withWords(plainHeap(16, 0, 0), 16)},
		{"no words", withWords(plainHeap(16, 0, 0), 0)},
		{"no words but room behind them", impl.Heap{Words: make([]int, 0, 32), Half: 16}},
		{"low -1", plainHeap(16, -1, 3)},
		{"low 1", plainHeap(16, 1, 3)},
		{"low half - 1", plainHeap(16, 15, 17)},
		{"low half + 1", plainHeap(16, 17, 18)},
		{"low behind the words", plainHeap(16, 32, 32)},
		{"low at the low end", plainHeap(16, math.MinInt, math.MinInt)},
		{"low at the high end", plainHeap(16, math.MaxInt, math.MaxInt)},
		{"next one ahead of the first half", plainHeap(16, 0, -1)},
		{"next one behind the first half", plainHeap(16, 0, 17)},
		{"next one ahead of the second half", plainHeap(16, 16, 15)},
		{"next one behind the second half", plainHeap(16, 16, 33)},
		{"next at the low end", plainHeap(16, 0, math.MinInt)},
		{"next at the high end", plainHeap(16, 16, math.MaxInt)},
		{"one access too many", withLog(plainHeap(16, 0, 3), logOf(impl.MaxLog+1, 16))},
	}
}

func TestLimitsOfTheHeap(t *testing.T) {
	if impl.MinHalf != 16 || impl.MaxHalf != 4096 || impl.MaxBlock != 64 || impl.MaxLog != 4000 {
		t.Fatal(impl.MinHalf, impl.MaxHalf, impl.MaxBlock, impl.MaxLog)
	}
}

func TestHeapNewMakesTwoEmptyHalves(t *testing.T) {
	for _, half := range []int{impl.MinHalf, impl.MinHalf + 1, 100, impl.MaxHalf - 1, impl.MaxHalf} {
		h, ok := impl.HeapNew(half)
		if !ok || len(h.Words) != 2*half || h.Half != half || h.Low != 0 || h.Next != 0 || len(h.Log) != 0 {
			t.Fatalf("HeapNew(%d): %d words, half %d, low %d, next %d, log %v, %v", half, len(h.Words), h.Half, h.Low, h.Next, h.Log, ok)
		}
		if !filled(h.Words, 0) {
			t.Errorf("HeapNew(%d): words that are not 0", half)
		}
		if !impl.HeapOk(h) || !impl.LogInside(h) || impl.HeapRoom(h) != half {
			t.Errorf("HeapNew(%d): not as it should be: room %d", half, impl.HeapRoom(h))
		}
	}
}

func TestHeapNewRefusesOtherHalves(t *testing.T) {
	for _, half := range append([]int{impl.MinHalf - 1, impl.MaxHalf + 1, 0, 1, -16, 2 * impl.MaxHalf}, farNumbers...) {
		if h, ok := impl.HeapNew(half); ok || !isZeroHeap(h) {
			t.Errorf("HeapNew(%d) = %v with %d words", half, ok, len(h.Words))
		}
	}
}

func TestHeapNewKeepsNothing(t *testing.T) {
	first, _ := impl.HeapNew(16)
	scribbleHeap(first)
	second, _ := impl.HeapNew(16)
	if !filled(second.Words, 0) {
		t.Error("a second heap has words of the first one")
	}
}

func TestHeapOk(t *testing.T) {
	for _, c := range goodHeaps() {
		if !impl.HeapOk(c.heap) {
			t.Errorf("%s: refused", c.name)
		}
	}
	for _, c := range badHeaps() {
		if impl.HeapOk(c.heap) {
			t.Errorf("%s: taken", c.name)
		}
	}
}

func TestHeapRoom(t *testing.T) {
	for _, low := range []int{0, 20} {
		for taken := 0; taken <= 20; taken++ {
			if room := impl.HeapRoom(plainHeap(20, low, low+taken)); room != 20-taken {
				t.Errorf("low %d, %d taken: room %d", low, taken, room)
			}
		}
	}
	for _, c := range badHeaps() {
		if room := impl.HeapRoom(c.heap); room != 0 {
			t.Errorf("%s: room %d", c.name, room)
		}
	}
}

func TestAskingChangesNoHeap(t *testing.T) {
	for _, c := range append(goodHeaps(), badHeaps()...) {
		arg, was := roomyHeap(c.heap), roomyHeap(c.heap)
		impl.HeapOk(arg)
		impl.HeapRoom(arg)
		impl.LogInside(arg)
		wantUntouched(t, c.name, arg, was)
	}
}

func TestNoCallTakesABadHeap(t *testing.T) {
	for _, c := range badHeaps() {
		for _, at := range []int{0, 1, c.heap.Low, c.heap.Next, math.MinInt, math.MaxInt} {
			if h, place, ok := impl.Alloc(c.heap, 1); ok || place != 0 || !isZeroHeap(h) {
				t.Errorf("%s: Alloc = %d, %v", c.name, place, ok)
			}
			if h, v, ok := impl.Load(c.heap, at, 0); ok || v != 0 || !isZeroHeap(h) {
				t.Errorf("%s: Load at %d = %d, %v", c.name, at, v, ok)
			}
			if h, ok := impl.Store(c.heap, at, 0, 7); ok || !isZeroHeap(h) {
				t.Errorf("%s: Store at %d = %v", c.name, at, ok)
			}
		}
		if impl.LogInside(c.heap) {
			t.Errorf("%s: LogInside", c.name)
		}
	}
}

// wantAlloc looks at each word: those that are taken are 0, all others are as they were.
func wantAlloc(t *testing.T, h impl.Heap, n int) {
	t.Helper()
	got, at, ok := impl.Alloc(h, n)
	want := roomyHeap(h)
	clear(want.Words[h.Next : h.Next+n])
	want.Next += n
	if !ok || at != h.Next || !sameHeap(got, want) {
		t.Errorf("Alloc of %d at low %d, next %d, half %d: %d, %v, next %d", n, h.Low, h.Next, h.Half, at, ok, got.Next)
	}
}

func wantNoAlloc(t *testing.T, h impl.Heap, n int) {
	t.Helper()
	if got, at, ok := impl.Alloc(h, n); ok || at != 0 || !sameHeap(got, h) {
		t.Errorf("Alloc of %d at low %d, next %d, half %d: %d, %v", n, h.Low, h.Next, h.Half, at, ok)
	}
}

func TestAllocTakesWordsThatAreZero(t *testing.T) {
	for _, half := range []int{16, 100, impl.MaxHalf} {
		for _, low := range []int{0, half} {
			for _, taken := range []int{0, 1, 5, half - 2, half - 1, half} {
				h := withLog(dirtyHeap(half, low, taken), logOf(5, half))
				for _, n := range []int{1, 2, 11, impl.MaxBlock - 1, impl.MaxBlock} {
					if n <= half-taken {
						wantAlloc(t, h, n)
					} else {
						wantNoAlloc(t, h, n)
					}
				}
			}
		}
	}
}

func TestAllocOfAllThatIsLeft(t *testing.T) {
	for _, low := range []int{0, 70} {
		for left := 1; left <= impl.MaxBlock; left++ {
			h := dirtyHeap(70, low, 70-left)
			wantAlloc(t, h, left)
			wantNoAlloc(t, h, left+1)
		}
		wantNoAlloc(t, dirtyHeap(70, low, 70), 1)
	}
}

func TestAllocRefusesOtherCounts(t *testing.T) {
	for _, low := range []int{0, 200} {
		h := withLog(dirtyHeap(200, low, 4), logOf(3, 200))
		for _, n := range append([]int{0, impl.MaxBlock + 1, 196, 200}, farNumbers...) {
			wantNoAlloc(t, h, n)
		}
	}
}

func TestAllocKeepsAFullLog(t *testing.T) {
	wantAlloc(t, withLog(dirtyHeap(16, 16, 2), logOf(impl.MaxLog, 16)), 3)
}

// logged answers what Log is behind one more access.
func logged(h impl.Heap, place int) []impl.Access {
	log := slices.Clone(h.Log)
	if len(log) == impl.MaxLog {
		log = log[1:]
	}
	return append(log, impl.Access{At: place, Low: h.Low, High: h.Next})
}

func wantLoad(t *testing.T, h impl.Heap, at int, off int) {
	t.Helper()
	got, v, ok := impl.Load(h, at, off)
	if !ok || v != h.Words[at+off] {
		t.Errorf("Load(%d, %d) at low %d, next %d: %d, %v", at, off, h.Low, h.Next, v, ok)
	}
	if !sameHeap(got, withLog(h, logged(h, at+off))) {
		t.Errorf("Load(%d, %d) at low %d, next %d: another heap", at, off, h.Low, h.Next)
	}
}

func wantStore(t *testing.T, h impl.Heap, at int, off int, v int) {
	t.Helper()
	got, ok := impl.Store(h, at, off, v)
	want := roomyHeap(withLog(h, logged(h, at+off)))
	want.Words[at+off] = v
	if !ok || !sameHeap(got, want) {
		t.Errorf("Store(%d, %d, %d) at low %d, next %d: %v", at, off, v, h.Low, h.Next, ok)
	}
	if _, back, ok := impl.Load(got, at+off, 0); !ok || back != v {
		t.Errorf("Store(%d, %d, %d): loaded as %d, %v", at, off, v, back, ok)
	}
}

func wantOutside(t *testing.T, h impl.Heap, at int, off int) {
	t.Helper()
	if got, v, ok := impl.Load(h, at, off); ok || v != 0 || !sameHeap(got, h) {
		t.Errorf("Load(%d, %d) at low %d, next %d: %d, %v", at, off, h.Low, h.Next, v, ok)
	}
	if got, ok := impl.Store(h, at, off, 7); ok || !sameHeap(got, h) {
		t.Errorf("Store(%d, %d) at low %d, next %d: %v", at, off, h.Low, h.Next, ok)
	}
}

// wantTouch holds one at and off against what the document says of them.
func wantTouch(t *testing.T, h impl.Heap, at int, off int) {
	t.Helper()
	if at >= h.Low && at < h.Next && off >= 0 && off < h.Next-at {
		wantLoad(t, h, at, off)
		wantStore(t, h, at, off, 77)
		return
	}
	wantOutside(t, h, at, off)
}

func TestEveryPlaceAndOff(t *testing.T) {
	for _, low := range []int{0, 16} {
		for _, taken := range []int{0, 1, 2, 9, 16} {
			h := withLog(dirtyHeap(16, low, taken), logOf(2, 16))
			for at := -3; at <= 35; at++ {
				for off := -35; off <= 35; off++ {
					wantTouch(t, h, at, off)
				}
			}
		}
	}
}

func TestPlacesFarOutside(t *testing.T) {
	for _, low := range []int{0, 16} {
		h := withLog(dirtyHeap(16, low, 10), logOf(2, 16))
		for _, far := range farNumbers {
			for _, near := range []int{0, 1, low, low + 9, low + 10, -low, 31} {
				wantOutside(t, h, far, near)
				wantOutside(t, h, near, far)
			}
			for _, other := range farNumbers {
				wantOutside(t, h, far, other)
			}
			// The sum is a word that was taken, but neither part is as it should be.
			wantOutside(t, h, low+3-far, far)
		}
	}
}

func TestFirstAndLastWord(t *testing.T) {
	for _, half := range []int{16, 50, impl.MaxHalf} {
		for _, low := range []int{0, half} {
			h := dirtyHeap(half, low, half)
			last := low + half - 1
			wantTouch(t, h, low, 0)
			wantTouch(t, h, last, 0)
			wantTouch(t, h, low, half-1)
			wantOutside(t, h, low-1, 0)
			wantOutside(t, h, low-1, 1)
			wantOutside(t, h, last+1, 0)
			wantOutside(t, h, last, 1)
			wantOutside(t, h, low, half)
			wantOutside(t, h, half-low, 0)
			wantOutside(t, h, last, -1)
			wantOutside(t, h, last+1, -1)
		}
	}
}

func TestStoredNumbersAreLoaded(t *testing.T) {
	h := dirtyHeap(16, 16, 10)
	for _, v := range append([]int{0, 1, 2, 1 << 62, -1 << 62}, farNumbers...) {
		wantStore(t, h, 16, 0, v)
		wantStore(t, h, 20, 3, v)
		wantStore(t, h, 25, 0, v)
	}
}

func TestLogDropsTheFirstAccess(t *testing.T) {
	for _, count := range []int{0, 1, impl.MaxLog - 2, impl.MaxLog - 1, impl.MaxLog} {
		h := withLog(dirtyHeap(16, 16, 10), logOf(count, 16))
		wantLoad(t, h, 17, 2)
		wantStore(t, h, 18, 1, 5)
		wantOutside(t, h, 26, 0)
		wantOutside(t, h, 15, 0)
	}
}

func TestLogOfManyAccesses(t *testing.T) {
	h := withLog(dirtyHeap(16, 0, 10), logOf(impl.MaxLog-3, 16))
	want := slices.Clone(h.Log)
	for i := range 8 {
		h, _, _ = impl.Load(h, i, 1)
		want = append(want, impl.Access{At: i + 1, Low: 0, High: 10})
	}
	if !slices.Equal(h.Log, want[len(want)-impl.MaxLog:]) {
		t.Error("not the last accesses, in their order")
	}
}

func accessCases() []impl.Access {
	return []impl.Access{
		{At: 0, Low: 0, High: 1},
		{At: 0, Low: 0, High: 16},
		{At: 15, Low: 0, High: 16},
		{At: 16, Low: 16, High: 17},
		{At: 16, Low: 16, High: 32},
		{At: 31, Low: 16, High: 32},
	}
}

func strayCases() []impl.Access {
	return []impl.Access{
		{},
		{At: -1, Low: 0, High: 4},
		{At: 4, Low: 0, High: 4},
		{At: 5, Low: 0, High: 4},
		{At: 15, Low: 16, High: 20},
		{At: 20, Low: 16, High: 20},
		{At: 2, Low: 0, High: 17},
		{At: 16, Low: 0, High: 17},
		{At: 18, Low: 16, High: 33},
		{At: 32, Low: 16, High: 33},
		{At: 2, Low: 1, High: 4},
		{At: 2, Low: -1, High: 4},
		{At: 15, Low: 15, High: 16},
		{At: 17, Low: 17, High: 18},
		{At: 32, Low: 32, High: 33},
		{At: 16, Low: 16, High: 16},
		{At: 0, Low: 0, High: -1},
		{At: 3, Low: 0, High: math.MinInt},
		{At: 3, Low: 0, High: math.MaxInt},
		{At: math.MinInt, Low: 0, High: 4},
		{At: math.MaxInt, Low: 0, High: 4},
		{At: math.MaxInt, Low: 0, High: math.MinInt},
		{At: 3, Low: math.MinInt, High: 4},
		{At: math.MaxInt - 1, Low: math.MaxInt, High: math.MaxInt},
		{At: math.MinInt, Low: math.MinInt, High: math.MinInt + 1},
	}
}

func TestLogInside(t *testing.T) {
	for _, h := range []impl.Heap{plainHeap(16, 0, 3), plainHeap(16, 16, 16)} {
		if !impl.LogInside(h) || !impl.LogInside(withLog(h, logOf(impl.MaxLog, 16))) {
			t.Errorf("low %d: refused", h.Low)
		}
		for _, a := range accessCases() {
			if !impl.LogInside(withLog(h, []impl.Access{a})) {
				t.Errorf("low %d: %v refused", h.Low, a)
			}
		}
		for _, a := range strayCases() {
			for at := range 3 {
				log := slices.Insert(logOf(2, 16), at, a)
				if impl.LogInside(withLog(h, log)) {
					t.Errorf("low %d: %v taken at %d", h.Low, a, at)
				}
			}
		}
	}
}

func TestLogInsideReadsNoSpareRoom(t *testing.T) {
	if h := roomyHeap(withLog(plainHeap(16, 0, 3), logOf(2, 16))); !impl.LogInside(h) {
		t.Error("what lies behind Log was read")
	}
}

func TestHeapAnswersHaveTheirOwnMemory(t *testing.T) {
	for _, c := range append(goodHeaps(), badHeaps()...) {
		for _, n := range []int{1, 2, 0, impl.MaxBlock + 1} {
			apart(t, c.name+": Alloc", c.heap, func(h impl.Heap) impl.Heap {
				got, _, _ := impl.Alloc(h, n)
				return got
			})
		}
		for _, at := range []int{c.heap.Low, c.heap.Next - 1, c.heap.Next, -1} {
			apart(t, c.name+": Load", c.heap, func(h impl.Heap) impl.Heap {
				got, _, _ := impl.Load(h, at, 0)
				return got
			})
			apart(t, c.name+": Store", c.heap, func(h impl.Heap) impl.Heap {
				got, _ := impl.Store(h, at, 0, 123)
				return got
			})
		}
	}
}

// walk are numbers that look unordered and are the same each time.
type walk struct{ state uint64 }

func (w *walk) below(n int) int {
	w.state = w.state*6364136223846793005 + 1442695040888963407
	return int(w.state>>33) % n
}

// TestHeapAgainstAModel holds the heap against a list of the words that were taken.
func TestHeapAgainstAModel(t *testing.T) {
	for seed := range 40 {
		w := &walk{state: uint64(seed)}
		half := impl.MinHalf + w.below(60)
		low := w.below(2) * half
		h := dirtyHeap(half, low, 0)
		var model []int
		for range 120 {
			at, off := low+w.below(half+4)-2, w.below(9)-2
			inside := at >= low && off >= 0 && at-low+off < len(model) && at-low < len(model)
			switch w.below(3) {
			case 0:
				n := w.below(10)
				next, place, ok := impl.Alloc(h, n)
				if ok != (n > 0 && len(model)+n <= half) || ok && place != low+len(model) {
					t.Fatalf("seed %d: Alloc of %d with %d of %d taken: %d, %v", seed, n, len(model), half, place, ok)
				}
				if ok {
					model = append(model, make([]int, n)...)
				}
				h = next
			case 1:
				next, v, ok := impl.Load(h, at, off)
				if ok != inside || ok && v != model[at-low+off] {
					t.Fatalf("seed %d: Load(%d, %d): %d, %v", seed, at, off, v, ok)
				}
				h = next
			case 2:
				next, ok := impl.Store(h, at, off, w.below(1000))
				if ok != inside {
					t.Fatalf("seed %d: Store(%d, %d): %v", seed, at, off, ok)
				}
				if ok {
					model[at-low+off] = next.Words[at+off]
				}
				h = next
			}
			if !impl.HeapOk(h) || !impl.LogInside(h) || impl.HeapRoom(h) != half-len(model) {
				t.Fatalf("seed %d: not as it should be", seed)
			}
			if !slices.Equal(h.Words[low:h.Next], model) {
				t.Fatalf("seed %d: other words than were stored", seed)
			}
		}
	}
}
