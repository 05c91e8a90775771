package tests

import (
	"fmt"
	"math"
	"slices"
	"strings"
	"testing"

	"loop.example/g00293/impl"
)

// leastWrapped and greatestWrapped are the ends of what Wrap leaves as it is.
const leastWrapped = -1 << 62
const greatestWrapped = 1<<62 - 1

var notWrapped = []int{leastWrapped - 1, greatestWrapped + 1, math.MinInt, math.MaxInt}

var allCaps = []int{impl.CapPrint, impl.CapTick, impl.CapDraw, impl.CapGet, impl.CapPut}

func sameEvent(a impl.Event, b impl.Event) bool {
	return a.Cap == b.Cap && a.A == b.A && a.B == b.B && sameText(a.Lit, b.Lit) && a.Res == b.Res
}

func sameWorld(a impl.World, b impl.World) bool {
	return a.Ticks == b.Ticks && slices.Equal(a.Draws, b.Draws) && slices.Equal(a.Store, b.Store) &&
		slices.EqualFunc(a.Trace, b.Trace, sameEvent)
}

func isZeroWorld(w impl.World) bool {
	return sameWorld(w, impl.World{})
}

// sayWorld tells of a long trace only its end.
func sayWorld(w impl.World) string {
	last := w.Trace[max(0, len(w.Trace)-3):]
	return fmt.Sprintf("ticks %d, draws %v, store %v, %d events: .. %v", w.Ticks, w.Draws, w.Store, len(w.Trace), last)
}

// copyWorld answers w in memory of its own, without room behind its lists.
func copyWorld(w impl.World) impl.World {
	w.Draws = slices.Clip(slices.Concat(w.Draws))
	w.Store = slices.Clip(slices.Concat(w.Store))
	w.Trace = slices.Clip(slices.Concat(w.Trace))
	for i := range w.Trace {
		w.Trace[i].Lit = slices.Clip(slices.Concat(w.Trace[i].Lit))
	}
	return w
}

func worldOfTicks(n int) impl.World {
	return impl.World{Ticks: n}
}

func worldOfDraws(draws ...int) impl.World {
	return impl.World{Draws: draws}
}

// worldOfKeys has an entry for each key; the Values are 10, 20 and so on.
func worldOfKeys(keys ...int) impl.World {
	var w impl.World
	for i, key := range keys {
		w.Store = append(w.Store, impl.Entry{Key: key, Value: 10 * (i + 1)})
	}
	return w
}

// keysOf are so many, with room between each two.
func keysOf(count int) []int {
	keys := make([]int, count)
	for i := range keys {
		keys[i] = 10*i - 70
	}
	return keys
}

func worldOfEntry(key int, value int) impl.World {
	return impl.World{Store: []impl.Entry{{Key: key, Value: value}}}
}

// traceOf are so many events that differ.
func traceOf(count int) []impl.Event {
	trace := make([]impl.Event, count)
	for i := range trace {
		trace[i] = impl.Event{Cap: i % 5, A: i, B: -i, Res: i * i}
		if i%7 == 0 {
			trace[i].Lit = []byte(fmt.Sprint("event ", i))
		}
	}
	return trace
}

func withTrace(w impl.World, trace []impl.Event) impl.World {
	w.Trace = trace
	return w
}

// oddEvents are such as no call puts there.
func oddEvents() []impl.Event {
	return []impl.Event{
		{Cap: -1, A: math.MinInt, B: math.MaxInt, Res: math.MinInt},
		{Cap: 5, Lit: []byte(strings.Repeat("\x00\xff", 500)), Res: -1},
		{Cap: impl.CapTick, A: 1, B: 2, Lit: []byte("lit"), Res: impl.MaxNum + 1},
		{},
		{Cap: math.MaxInt, A: leastWrapped - 1, B: greatestWrapped + 1},
	}
}

// fullWorld has something of each.
func fullWorld() impl.World {
	return impl.World{Ticks: 5, Draws: []int{17, 4, 0, impl.MaxNum}, Store: worldOfKeys(-3, 0, 8).Store, Trace: append(oddEvents(), traceOf(9)...)}
}

type worldCase struct {
	name  string
	world impl.World
}

func goodWorlds() []worldCase {
	return []worldCase{
		{"the zero value", impl.World{}},
		{"ticks 1", worldOfTicks(1)},
		{"ticks MaxNum - 1", worldOfTicks(impl.MaxNum - 1)},
		{"ticks MaxNum", worldOfTicks(impl.MaxNum)},
		{"a draw of 0", worldOfDraws(0)},
		{"a draw of MaxNum", worldOfDraws(impl.MaxNum)},
		{"draws in no order", worldOfDraws(5, 3, 3, impl.MaxNum, 0, 9)},
		{"MaxDraws draws", worldOfDraws(slices.Repeat([]int{7}, impl.MaxDraws)...)},
		{"MaxDraws draws of MaxNum", worldOfDraws(slices.Repeat([]int{impl.MaxNum}, impl.MaxDraws)...)},
		{"one entry", worldOfKeys(4)},
		{"keys that are neighbours", worldOfKeys(-1, 0, 1, 2)},
		{"the least and the greatest key", worldOfKeys(leastWrapped, 0, greatestWrapped)},
		{"MaxStore - 1 entries", worldOfKeys(keysOf(impl.MaxStore - 1)...)},
		{"MaxStore entries", worldOfKeys(keysOf(impl.MaxStore)...)},
		{"the least value", worldOfEntry(0, leastWrapped)},
		{"the greatest value", worldOfEntry(0, greatestWrapped)},
		{"values in no order", impl.World{Store: []impl.Entry{{Key: 1, Value: 9}, {Key: 2, Value: 9}, {Key: 3, Value: -9}}}},
		{"one event", withTrace(impl.World{}, traceOf(1))},
		{"events of any content", withTrace(impl.World{}, oddEvents())},
		{"MaxTrace - 1 events", withTrace(impl.World{}, traceOf(impl.MaxTrace-1))},
		{"MaxTrace events", withTrace(impl.World{}, traceOf(impl.MaxTrace))},
		{"something of each", fullWorld()},
	}
}

func badWorlds() []worldCase {
	list := []worldCase{
		{"ticks -1", worldOfTicks(-1)},
		{"ticks MaxNum + 1", worldOfTicks(impl.MaxNum + 1)},
		{"ticks at the low end", worldOfTicks(math.MinInt)},
		{"ticks at the high end", worldOfTicks(math.MaxInt)},
		{"one draw too many", worldOfDraws(make([]int, impl.MaxDraws+1)...)},
		{"one entry too many", worldOfKeys(keysOf(impl.MaxStore + 1)...)},
		{"one event too many", withTrace(impl.World{}, traceOf(impl.MaxTrace+1))},
		{"two keys alike", worldOfKeys(3, 3)},
		{"two entries alike behind another", worldOfKeys(-1, 3, 3)},
		{"two keys alike, at the ends", worldOfKeys(3, 4, 3)},
		{"keys that fall", worldOfKeys(2, 1)},
		{"keys that fall at the end", worldOfKeys(1, 2, 3, 2)},
		{"the greatest key first", worldOfKeys(greatestWrapped, leastWrapped)},
		{"MaxStore entries, the last two alike", worldOfKeys(append(keysOf(impl.MaxStore-1), 110)...)},
	}
	for _, n := range []int{-1, impl.MaxNum + 1, math.MinInt, math.MaxInt} {
		for at := range 3 {
			list = append(list, worldCase{fmt.Sprint("a draw of ", n, " at ", at), worldOfDraws(slices.Insert([]int{1, 2}, at, n)...)})
		}
	}
	for _, n := range notWrapped {
		list = append(list, worldCase{fmt.Sprint("the key ", n), worldOfEntry(n, 0)}, worldCase{fmt.Sprint("the value ", n), worldOfEntry(0, n)})
		behind := worldOfKeys(-5, -4)
		behind.Store[1].Value = n
		list = append(list, worldCase{fmt.Sprint("the value ", n, " behind another"), behind})
	}
	return append(list,
		worldCase{"the least key and one below", worldOfKeys(leastWrapped-1, leastWrapped)},
		worldCase{"the greatest key and one above", worldOfKeys(greatestWrapped, greatestWrapped+1)})
}

func TestLimitsOfTheWorld(t *testing.T) {
	if impl.MaxDraws != 200 || impl.MaxStore != 20 || impl.MaxTrace != 20000 {
		t.Error("limits:", impl.MaxDraws, impl.MaxStore, impl.MaxTrace)
	}
	if !slices.Equal(allCaps, []int{0, 1, 2, 3, 4}) {
		t.Error("kinds:", allCaps)
	}
}

func TestWorldOk(t *testing.T) {
	for _, c := range goodWorlds() {
		if !impl.WorldOk(c.world) || !rawWorldOk(c.world) {
			t.Errorf("%s: refused", c.name)
		}
	}
	for _, c := range badWorlds() {
		if impl.WorldOk(c.world) || rawWorldOk(c.world) {
			t.Errorf("%s: taken", c.name)
		}
	}
}

// TestWorldOkOfTwoReasons: what is wrong in one list is not made up for by another.
func TestWorldOkOfTwoReasons(t *testing.T) {
	for _, c := range badWorlds() {
		for _, other := range goodWorlds() {
			for _, w := range []impl.World{
				{Ticks: c.world.Ticks, Draws: c.world.Draws, Store: other.world.Store, Trace: c.world.Trace},
				{Ticks: other.world.Ticks, Draws: c.world.Draws, Store: c.world.Store, Trace: other.world.Trace},
				{Ticks: c.world.Ticks, Draws: other.world.Draws, Store: c.world.Store, Trace: c.world.Trace},
			} {
				if impl.WorldOk(w) != rawWorldOk(w) {
					t.Errorf("%s, with %s: %v", c.name, other.name, impl.WorldOk(w))
				}
			}
		}
	}
}

// wantNoForeign looks for the one answer of all that is refused.
func wantNoForeign(t *testing.T, what string, w impl.World, kind int, a int, b int, lit []byte) {
	t.Helper()
	if got, res, ok := impl.Foreign(w, kind, a, b, lit); ok || res != 0 || !isZeroWorld(got) {
		t.Errorf("%s: kind %d, %d, %d, %d bytes: %s, %d, %v", what, kind, a, b, len(lit), sayWorld(got), res, ok)
	}
}

// wantForeign looks for the world behind a call, to each field: want is that world without the new event.
// It must be WorldOk, whatever the call was. The world that came is answered.
func wantForeign(t *testing.T, what string, w impl.World, kind int, a int, b int, lit []byte, want impl.World, event impl.Event) impl.World {
	t.Helper()
	got, res, ok := impl.Foreign(w, kind, a, b, lit)
	want = copyWorld(want)
	want.Trace = append(want.Trace, event)
	if !ok || res != event.Res || !sameWorld(got, want) {
		t.Errorf("%s: kind %d, %d, %d, %q: %s, %d, %v; not %s", what, kind, a, b, lit, sayWorld(got), res, ok, sayWorld(want))
	}
	if !impl.WorldOk(got) {
		t.Errorf("%s: kind %d, %d, %d, %q: no world that is WorldOk comes", what, kind, a, b, lit)
	}
	return got
}

// litsWithin are of all lengths that count.
func litsWithin() [][]byte {
	return [][]byte{nil, {}, []byte("a"), []byte("\x00\xff\n\""), make([]byte, impl.MaxBlock-1), []byte(strings.Repeat("x", impl.MaxBlock))}
}

func TestForeignRefusesBadWorlds(t *testing.T) {
	for _, c := range badWorlds() {
		for _, kind := range allCaps {
			wantNoForeign(t, c.name, c.world, kind, 1, 1, []byte("a"))
			wantNoForeign(t, c.name, c.world, kind, 0, 0, nil)
		}
	}
}

func TestForeignRefusesOtherKinds(t *testing.T) {
	for _, w := range []impl.World{{}, fullWorld()} {
		for _, kind := range []int{-1, impl.CapPut + 1, impl.CapPut + 2, -5, 256, math.MinInt, math.MaxInt} {
			wantNoForeign(t, "no kind", w, kind, 0, 0, nil)
			wantNoForeign(t, "no kind", w, kind, 8, 1, []byte("a"))
		}
		for kind := impl.CapPrint; kind <= impl.CapPut; kind++ {
			if _, _, ok := impl.Foreign(w, kind, 0, 0, nil); !ok {
				t.Errorf("kind %d: refused", kind)
			}
		}
	}
}

// TestForeignRefusesNumbersThatWrapChanges: also where the kind does not use them.
func TestForeignRefusesNumbersThatWrapChanges(t *testing.T) {
	w := fullWorld()
	for _, kind := range allCaps {
		for _, n := range notWrapped {
			wantNoForeign(t, "a", w, kind, n, 0, nil)
			wantNoForeign(t, "b", w, kind, 0, n, nil)
			wantNoForeign(t, "a and b", w, kind, n, n, nil)
			wantNoForeign(t, "a, with b at its end", w, kind, n, greatestWrapped, []byte("a"))
			wantNoForeign(t, "b, with a at its end", w, kind, leastWrapped, n, []byte("a"))
		}
		for _, n := range []int{leastWrapped, leastWrapped + 1, -1, 0, 1, greatestWrapped - 1, greatestWrapped} {
			for _, m := range []int{leastWrapped, 0, greatestWrapped} {
				if _, _, ok := impl.Foreign(w, kind, n, m, nil); !ok {
					t.Errorf("kind %d: a %d, b %d refused", kind, n, m)
				}
				if _, _, ok := impl.Foreign(w, kind, m, n, nil); !ok {
					t.Errorf("kind %d: a %d, b %d refused", kind, m, n)
				}
			}
		}
	}
}

// TestForeignRefusesLongLits: also where the kind does not use them.
func TestForeignRefusesLongLits(t *testing.T) {
	for _, w := range []impl.World{{}, fullWorld()} {
		for _, kind := range allCaps {
			for _, size := range []int{impl.MaxBlock + 1, impl.MaxBlock + 2, 100000} {
				wantNoForeign(t, "a long lit", w, kind, 1, 1, make([]byte, size))
			}
			for _, lit := range litsWithin() {
				if _, _, ok := impl.Foreign(w, kind, 1, 1, lit); !ok {
					t.Errorf("kind %d: %d bytes refused", kind, len(lit))
				}
			}
		}
	}
}

func TestForeignRefusesAFullTrace(t *testing.T) {
	full := withTrace(fullWorld(), traceOf(impl.MaxTrace))
	last := withTrace(fullWorld(), traceOf(impl.MaxTrace-1))
	long := withTrace(fullWorld(), traceOf(impl.MaxTrace+1))
	if !impl.WorldOk(full) || !impl.WorldOk(last) || impl.WorldOk(long) {
		t.Fatal("the test's own worlds")
	}
	for _, kind := range allCaps {
		wantNoForeign(t, "MaxTrace events", full, kind, 8, 1, []byte("a"))
		wantNoForeign(t, "more than MaxTrace events", long, kind, 8, 1, []byte("a"))
		got, _, ok := impl.Foreign(last, kind, 8, 1, []byte("a"))
		if !ok || len(got.Trace) != impl.MaxTrace || got.Trace[impl.MaxTrace-1].Cap != kind || !impl.WorldOk(got) {
			t.Errorf("kind %d: one event fewer: %s, %v", kind, sayWorld(got), ok)
		}
		wantNoForeign(t, "filled up", got, kind, 8, 1, []byte("a"))
	}
}

// worldsWithRoom are good ones that take an event more.
func worldsWithRoom() []worldCase {
	return slices.DeleteFunc(goodWorlds(), func(c worldCase) bool { return len(c.world.Trace) == impl.MaxTrace })
}

func TestPrint(t *testing.T) {
	for _, c := range worldsWithRoom() {
		for _, lit := range litsWithin() {
			event := impl.Event{Cap: impl.CapPrint, Lit: lit}
			wantForeign(t, c.name, c.world, impl.CapPrint, 0, 0, lit, c.world, event)
			wantForeign(t, c.name, c.world, impl.CapPrint, 8, -9, lit, c.world, event)
		}
	}
}

// TestPrintOfEachByte: lit is any bytes, not only such as a literal has.
func TestPrintOfEachByte(t *testing.T) {
	w := impl.World{}
	for b := range 256 {
		lit := []byte{byte(b), 'x', byte(255 - b)}
		w = wantForeign(t, "each byte", w, impl.CapPrint, 0, 0, lit, w, impl.Event{Cap: impl.CapPrint, Lit: lit})
	}
}

func TestTick(t *testing.T) {
	for _, c := range worldsWithRoom() {
		want := c.world
		if want.Ticks < impl.MaxNum {
			want.Ticks++
		}
		event := impl.Event{Cap: impl.CapTick, Res: c.world.Ticks}
		wantForeign(t, c.name, c.world, impl.CapTick, 0, 0, nil, want, event)
		wantForeign(t, c.name, c.world, impl.CapTick, 3, -4, []byte("tick"), want, event)
	}
}

func TestTicksGoUpToMaxNum(t *testing.T) {
	for _, c := range []struct{ ticks, next int }{
		{0, 1}, {1, 2}, {41, 42}, {impl.MaxNum - 2, impl.MaxNum - 1}, {impl.MaxNum - 1, impl.MaxNum}, {impl.MaxNum, impl.MaxNum},
	} {
		wantForeign(t, "tick", worldOfTicks(c.ticks), impl.CapTick, 0, 0, nil, worldOfTicks(c.next), impl.Event{Cap: impl.CapTick, Res: c.ticks})
	}
	w := worldOfTicks(impl.MaxNum - 2)
	for _, want := range []int{impl.MaxNum - 2, impl.MaxNum - 1, impl.MaxNum, impl.MaxNum, impl.MaxNum} {
		next, res, ok := impl.Foreign(w, impl.CapTick, 0, 0, nil)
		if !ok || res != want {
			t.Errorf("ticks %d: %d, %v", w.Ticks, res, ok)
		}
		w = next
	}
}

func TestDraw(t *testing.T) {
	for _, c := range []struct {
		draws []int
		a     int
		res   int
		left  []int
	}{
		{[]int{17, 4}, 10, 7, []int{4}},
		{[]int{17}, 10, 7, nil},
		{[]int{17}, 17, 0, nil},
		{[]int{17}, 18, 17, nil},
		{[]int{17}, 1, 0, nil},
		{[]int{17, 17, 17}, 16, 1, []int{17, 17}},
		{[]int{0, 9}, 5, 0, []int{9}},
		{[]int{3, 2, 1, 0}, greatestWrapped, 3, []int{2, 1, 0}},
		{[]int{impl.MaxNum, 1}, impl.MaxNum, 0, []int{1}},
		{[]int{impl.MaxNum, 1}, impl.MaxNum + 1, impl.MaxNum, []int{1}},
		{[]int{impl.MaxNum}, 2, 1, nil},
		{[]int{impl.MaxNum}, 1000, 647, nil},
		{[]int{5, 6, 7}, 0, 0, []int{5, 6, 7}},
		{[]int{5, 6, 7}, -1, 0, []int{5, 6, 7}},
		{[]int{5, 6, 7}, -4, 0, []int{5, 6, 7}},
		{[]int{5}, leastWrapped, 0, []int{5}},
		{nil, 10, 0, nil},
		{nil, 1, 0, nil},
		{nil, 0, 0, nil},
		{nil, -3, 0, nil},
		{nil, greatestWrapped, 0, nil},
	} {
		event := impl.Event{Cap: impl.CapDraw, A: c.a, Res: c.res}
		wantForeign(t, "draw", worldOfDraws(c.draws...), impl.CapDraw, c.a, 0, nil, worldOfDraws(c.left...), event)
		w, want := fullWorld(), fullWorld()
		w.Draws, want.Draws = c.draws, c.left
		wantForeign(t, "draw, with all else", w, impl.CapDraw, c.a, -6, []byte("draw"), want, event)
	}
}

// TestDrawsGoOneByOne: all draws there may be, one behind the other, and then none.
func TestDrawsGoOneByOne(t *testing.T) {
	var draws []int
	for i := range impl.MaxDraws {
		draws = append(draws, 31*i%97)
	}
	w := worldOfDraws(draws...)
	for i, draw := range draws {
		w = wantForeign(t, "draws", w, impl.CapDraw, 0, 0, nil, w, impl.Event{Cap: impl.CapDraw})
		left := w
		left.Draws = draws[i+1:]
		w = wantForeign(t, "draws", w, impl.CapDraw, 10, 0, nil, left, impl.Event{Cap: impl.CapDraw, A: 10, Res: draw % 10})
	}
	w = wantForeign(t, "no draws", w, impl.CapDraw, 10, 0, nil, w, impl.Event{Cap: impl.CapDraw, A: 10})
	wantForeign(t, "no draws", w, impl.CapDraw, 10, 0, nil, w, impl.Event{Cap: impl.CapDraw, A: 10})
}

func TestGet(t *testing.T) {
	for _, c := range worldsWithRoom() {
		values := map[int]int{}
		keys := []int{leastWrapped, -71, -1, 0, 1, 7, 999, greatestWrapped}
		for _, e := range c.world.Store {
			values[e.Key] = e.Value
			keys = append(keys, e.Key, max(leastWrapped, e.Key-1), min(greatestWrapped, e.Key+1))
		}
		for _, key := range keys {
			event := impl.Event{Cap: impl.CapGet, A: key, Res: values[key]}
			wantForeign(t, c.name, c.world, impl.CapGet, key, 0, nil, c.world, event)
			wantForeign(t, c.name, c.world, impl.CapGet, key, 12, []byte("get"), c.world, event)
		}
	}
}

func TestGetOfValuesAtTheirEnds(t *testing.T) {
	w := worldOfKeys(leastWrapped, -1, 0, greatestWrapped)
	for i, value := range []int{greatestWrapped, leastWrapped, 0, -1} {
		w.Store[i].Value = value
	}
	for _, e := range w.Store {
		wantForeign(t, "ends", w, impl.CapGet, e.Key, 0, nil, w, impl.Event{Cap: impl.CapGet, A: e.Key, Res: e.Value})
	}
	for _, key := range []int{leastWrapped + 1, -2, 1, greatestWrapped - 1} {
		wantForeign(t, "ends", w, impl.CapGet, key, 0, nil, w, impl.Event{Cap: impl.CapGet, A: key})
	}
}

func TestPut(t *testing.T) {
	entries := func(list ...impl.Entry) impl.World { return impl.World{Store: list} }
	three := entries(impl.Entry{Key: -3, Value: 1}, impl.Entry{Key: 0, Value: 2}, impl.Entry{Key: 8, Value: 3})
	at := func(place int, e impl.Entry) impl.World {
		return impl.World{Store: slices.Insert(slices.Clone(three.Store), place, e)}
	}
	instead := func(place int, value int) impl.World {
		w := copyWorld(three)
		w.Store[place].Value = value
		return w
	}
	for _, c := range []struct {
		name string
		w    impl.World
		a, b int
		want impl.World
	}{
		{"into nothing", impl.World{}, 5, 50, worldOfEntry(5, 50)},
		{"zeros into nothing", impl.World{}, 0, 0, worldOfEntry(0, 0)},
		{"the least and the greatest into nothing", impl.World{}, leastWrapped, greatestWrapped, worldOfEntry(leastWrapped, greatestWrapped)},
		{"the greatest and the least into nothing", impl.World{}, greatestWrapped, leastWrapped, worldOfEntry(greatestWrapped, leastWrapped)},
		{"ahead of all", three, -4, 9, at(0, impl.Entry{Key: -4, Value: 9})},
		{"far ahead of all", three, leastWrapped, 9, at(0, impl.Entry{Key: leastWrapped, Value: 9})},
		{"between the first two", three, -2, 9, at(1, impl.Entry{Key: -2, Value: 9})},
		{"between the first two, at the end", three, -1, 9, at(1, impl.Entry{Key: -1, Value: 9})},
		{"between the last two", three, 1, 0, at(2, impl.Entry{Key: 1, Value: 0})},
		{"between the last two, at the end", three, 7, -1, at(2, impl.Entry{Key: 7, Value: -1})},
		{"behind all", three, 9, 9, at(3, impl.Entry{Key: 9, Value: 9})},
		{"far behind all", three, greatestWrapped, 9, at(3, impl.Entry{Key: greatestWrapped, Value: 9})},
		{"in place of the first one", three, -3, 9, instead(0, 9)},
		{"in place of the middle one", three, 0, leastWrapped, instead(1, leastWrapped)},
		{"in place of the last one", three, 8, 0, instead(2, 0)},
		{"the same again", three, 8, 3, three},
	} {
		event := impl.Event{Cap: impl.CapPut, A: c.a, B: c.b}
		wantForeign(t, c.name, c.w, impl.CapPut, c.a, c.b, nil, c.want, event)
		w, want := fullWorld(), fullWorld()
		w.Store, want.Store = c.w.Store, c.want.Store
		wantForeign(t, c.name+", with all else", w, impl.CapPut, c.a, c.b, []byte("put"), want, event)
	}
}

// TestPutIntoAFullStore: nothing new is put in, what is there is changed, and there is an event all the same.
func TestPutIntoAFullStore(t *testing.T) {
	full := worldOfKeys(keysOf(impl.MaxStore)...)
	for place, e := range full.Store {
		want := copyWorld(full)
		want.Store[place].Value = 5
		wantForeign(t, "a full store", full, impl.CapPut, e.Key, 5, nil, want, impl.Event{Cap: impl.CapPut, A: e.Key, B: 5})
		for _, key := range []int{e.Key - 1, e.Key + 1} {
			got := wantForeign(t, "a full store, a new key", full, impl.CapPut, key, 5, nil, full, impl.Event{Cap: impl.CapPut, A: key, B: 5})
			wantForeign(t, "a full store, a new key", got, impl.CapGet, key, 0, nil, got, impl.Event{Cap: impl.CapGet, A: key})
		}
	}
}

// TestPutOfTheLastEntry: one entry fewer than there may be, at each place.
func TestPutOfTheLastEntry(t *testing.T) {
	all := worldOfKeys(keysOf(impl.MaxStore)...)
	for place, e := range all.Store {
		w := copyWorld(all)
		w.Store = slices.Delete(w.Store, place, place+1)
		got := wantForeign(t, "the last entry", w, impl.CapPut, e.Key, e.Value, nil, all, impl.Event{Cap: impl.CapPut, A: e.Key, B: e.Value})
		wantForeign(t, "one more", got, impl.CapPut, 1, 1, nil, got, impl.Event{Cap: impl.CapPut, A: 1, B: 1})
	}
}

// TestTheTraceGrowsAtItsEnd: events stay as they are, in their order, whatever they hold.
func TestTheTraceGrowsAtItsEnd(t *testing.T) {
	trace := oddEvents()
	w := impl.World{Draws: []int{9}, Store: worldOfKeys(1).Store, Trace: oddEvents()}
	for i, event := range []impl.Event{
		{Cap: impl.CapPrint, Lit: []byte("hi")},
		{Cap: impl.CapTick, Res: 0},
		{Cap: impl.CapDraw, A: 4, Res: 1},
		{Cap: impl.CapGet, A: 1, Res: 10},
		{Cap: impl.CapPut, A: 1, B: 7},
		{Cap: impl.CapGet, A: 1, Res: 7},
		{Cap: impl.CapTick, Res: 1},
		{Cap: impl.CapPrint},
		{Cap: impl.CapDraw, A: 4},
	} {
		next, res, ok := impl.Foreign(w, event.Cap, event.A, event.B, event.Lit)
		trace = append(trace, event)
		if !ok || res != event.Res || !slices.EqualFunc(next.Trace, trace, sameEvent) {
			t.Errorf("call %d: %d, %v, %s", i, res, ok, sayWorld(next))
		}
		w = next
	}
}
