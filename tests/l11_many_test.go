package tests

import (
	"cmp"
	"fmt"
	"math"
	"slices"
	"testing"

	"loop.example/g00293/impl"
)

// rawWorldOk asks each thing that the document names by itself.
func rawWorldOk(w impl.World) bool {
	within := func(n int, low int, high int) bool { return low <= n && n <= high }
	for _, n := range append([]int{w.Ticks}, w.Draws...) {
		if !within(n, 0, math.MaxInt32) {
			return false
		}
	}
	seen := map[int]bool{}
	for _, e := range w.Store {
		if seen[e.Key] || !within(e.Key, leastWrapped, greatestWrapped) || !within(e.Value, leastWrapped, greatestWrapped) {
			return false
		}
		seen[e.Key] = true
	}
	return slices.IsSortedFunc(w.Store, byKey) && len(w.Draws) <= 200 && len(w.Store) <= 20 && len(w.Trace) <= 20000
}

func byKey(a impl.Entry, b impl.Entry) int {
	return cmp.Compare(a.Key, b.Key)
}

// A rawScene is a world told in another way: the store is a map, and draws are counted, not taken away.
type rawScene struct {
	ticks int
	draws []int
	gone  int
	store map[int]int
	trace []impl.Event
}

func rawSceneOf(w impl.World) *rawScene {
	s := &rawScene{ticks: w.Ticks, draws: slices.Clone(w.Draws), store: map[int]int{}, trace: slices.Clone(w.Trace)}
	for _, e := range w.Store {
		s.store[e.Key] = e.Value
	}
	return s
}

func (s *rawScene) world() impl.World {
	w := impl.World{Ticks: s.ticks, Draws: s.draws[s.gone:], Trace: s.trace}
	for key, value := range s.store {
		w.Store = append(w.Store, impl.Entry{Key: key, Value: value})
	}
	slices.SortFunc(w.Store, byKey)
	return w
}

// foreign is what the document says of a call; false where it is refused.
func (s *rawScene) foreign(kind int, a int, b int, lit []byte) (int, bool) {
	if !rawWorldOk(s.world()) || len(s.trace) > 19999 || len(lit) > 64 || kind < 0 || kind > 4 {
		return 0, false
	}
	if min(a, b) < leastWrapped || max(a, b) > greatestWrapped {
		return 0, false
	}
	event := impl.Event{Cap: kind}
	switch kind {
	case 0:
		event.Lit = lit
	case 1:
		event.Res = s.ticks
		if s.ticks != math.MaxInt32 {
			s.ticks++
		}
	case 2:
		event.A = a
		if a > 0 && s.gone < len(s.draws) {
			event.Res = s.draws[s.gone] - s.draws[s.gone]/a*a
			s.gone++
		}
	case 3:
		event.A, event.Res = a, s.store[a]
	case 4:
		event.A, event.B = a, b
		if _, there := s.store[a]; there || len(s.store) != 20 {
			s.store[a] = b
		}
	}
	s.trace = append(s.trace, event)
	return event.Res, true
}

// someNumber is mostly a small one, so that keys come again, and now and then one at an end.
func (w *walk) someNumber() int {
	if w.below(12) == 0 {
		return pick(w, []int{leastWrapped, leastWrapped + 5000, greatestWrapped - 5000, greatestWrapped, impl.MaxNum, impl.MaxNum + 1})
	}
	return w.below(40) - 10
}

func (w *walk) someLit(most int) []byte {
	lit := make([]byte, w.below(most+1))
	for i := range lit {
		lit[i] = byte(w.below(256))
	}
	return lit
}

// someWorld is WorldOk, with a short trace.
func (w *walk) someWorld() impl.World {
	world := impl.World{Ticks: pick(w, []int{0, 1, 77, impl.MaxNum - 5, impl.MaxNum})}
	for range w.below(12) {
		world.Draws = append(world.Draws, pick(w, []int{0, 1, w.below(100), impl.MaxNum - w.below(3)}))
	}
	keys := map[int]bool{}
	for count := pick(w, []int{0, w.below(impl.MaxStore), impl.MaxStore - 1, impl.MaxStore}); len(keys) < count; {
		keys[w.someNumber()] = true
	}
	for key := range keys {
		world.Store = append(world.Store, impl.Entry{Key: key})
	}
	slices.SortFunc(world.Store, byKey)
	for i := range world.Store {
		world.Store[i].Value = w.someNumber()
	}
	for range w.below(6) {
		world.Trace = append(world.Trace, impl.Event{Cap: w.below(9) - 2, A: w.someNumber(), B: w.someNumber(), Lit: w.someLit(80), Res: w.someNumber()})
	}
	return world
}

// someCall is now and then one that is refused.
func (w *walk) someCall() (int, int, int, []byte) {
	kind, a, b, lit := w.below(5), w.someNumber(), w.someNumber(), w.someLit(impl.MaxBlock)
	switch w.below(40) {
	case 0:
		kind = pick(w, []int{-1, 5, 6, math.MinInt, math.MaxInt})
	case 1:
		a = pick(w, notWrapped)
	case 2:
		b = pick(w, notWrapped)
	case 3:
		lit = make([]byte, impl.MaxBlock+1+w.below(20))
	}
	return kind, a, b, lit
}

// TestManyCallsAgainstAnotherWay: call behind call, each held against the same world told in another way.
func TestManyCallsAgainstAnotherWay(t *testing.T) {
	refused, full := 0, 0
	for seed := range 120 {
		walk := &walk{state: uint64(seed)}
		w := walk.someWorld()
		raw := rawSceneOf(w)
		if !impl.WorldOk(w) || !sameWorld(raw.world(), w) {
			t.Fatalf("seed %d: the test's own world: %s", seed, sayWorld(w))
		}
		for i := range 120 {
			kind, a, b, lit := walk.someCall()
			next, res, ok := impl.Foreign(w, kind, a, b, lit)
			wantRes, wantOk := raw.foreign(kind, a, b, lit)
			if ok != wantOk || res != wantRes {
				t.Fatalf("seed %d, call %d: kind %d, %d, %d, %d bytes: %d, %v; not %d, %v", seed, i, kind, a, b, len(lit), res, ok, wantRes, wantOk)
			}
			if !ok {
				refused++
				if !isZeroWorld(next) {
					t.Fatalf("seed %d, call %d: a world beside a false: %s", seed, i, sayWorld(next))
				}
				continue
			}
			if !sameWorld(next, raw.world()) || !impl.WorldOk(next) {
				t.Fatalf("seed %d, call %d: kind %d, %d, %d: %s; not %s", seed, i, kind, a, b, sayWorld(next), sayWorld(raw.world()))
			}
			w = next
		}
		full += len(w.Store) / impl.MaxStore
	}
	if refused < 500 || full < 50 {
		t.Error("the test's own calls:", refused, "refused,", full, "full stores")
	}
}

// TestWhatWasPutIsGot: behind the put, and behind all other calls but a put of the same Key.
func TestWhatWasPutIsGot(t *testing.T) {
	kept, lost := 0, 0
	for seed := range 400 {
		walk := &walk{state: uint64(seed)}
		w := walk.someWorld()
		key, value := walk.someNumber(), walk.someNumber()
		there := slices.ContainsFunc(w.Store, func(e impl.Entry) bool { return e.Key == key })
		want := value
		if !there && len(w.Store) == impl.MaxStore {
			want = 0
			lost++
		} else {
			kept++
		}
		w, _, _ = impl.Foreign(w, impl.CapPut, key, value, nil)
		for i := range 30 {
			got, res, ok := impl.Foreign(w, impl.CapGet, key, 0, nil)
			if !ok || res != want || !impl.WorldOk(got) {
				t.Fatalf("seed %d, %d calls behind the put of %d at %d: %d, %v", seed, i, value, key, res, ok)
			}
			kind, a, b, lit := walk.someCall()
			if kind == impl.CapPut && a == key {
				a--
			}
			if next, _, ok := impl.Foreign(w, kind, a, b, lit); ok {
				w = next
			}
		}
	}
	if kept < 300 || lost < 10 {
		t.Error("the test's own worlds:", kept, lost)
	}
}

// TestAllThatFitsIsGot: MaxStore keys in any order, each put twice, all got.
func TestAllThatFitsIsGot(t *testing.T) {
	for seed := range 40 {
		walk := &walk{state: uint64(seed)}
		keys := keysOf(impl.MaxStore)
		for i := range keys {
			other := walk.below(i + 1)
			keys[i], keys[other] = keys[other], keys[i]
		}
		w := impl.World{}
		for round := range 2 {
			for i, key := range keys {
				w, _, _ = impl.Foreign(w, impl.CapPut, key, 100*round+i, nil)
			}
		}
		for i, key := range keys {
			if _, res, ok := impl.Foreign(w, impl.CapGet, key, 0, nil); !ok || res != 100+i {
				t.Errorf("seed %d: %d is %d, %v", seed, key, res, ok)
			}
		}
	}
}

// TestACallForEachEventThereMayBe: a world lives on up to MaxTrace events, and no further.
func TestACallForEachEventThereMayBe(t *testing.T) {
	w := impl.World{Draws: []int{1, 2, 3}, Trace: traceOf(impl.MaxTrace - 60)}
	for i := range 60 {
		next, _, ok := impl.Foreign(w, i%5, i, 1, []byte("a"))
		if !ok || len(next.Trace) != impl.MaxTrace-59+i || !impl.WorldOk(next) {
			t.Fatalf("event %d: %d events, %v", i, len(next.Trace), ok)
		}
		w = next
	}
	for _, kind := range allCaps {
		wantNoForeign(t, "a life's end", w, kind, 1, 1, nil)
	}
}

var spareEntry = impl.Entry{Key: spareWord, Value: spareWord}

var spareEvent = impl.Event{Cap: spareWord, A: spareWord, B: spareWord, Res: spareWord}

// roomyWorld answers w in memory of its own, with filled room behind all lists.
func roomyWorld(w impl.World) impl.World {
	w.Draws = withSpare(w.Draws, spareWord)
	w.Store = withSpare(w.Store, spareEntry)
	w.Trace = withSpare(w.Trace, spareEvent)
	for i := range w.Trace {
		w.Trace[i].Lit = roomy(string(w.Trace[i].Lit))
	}
	return w
}

func (r *roll) world(w impl.World) {
	enrol(r, w.Draws, func(n int) bool { return n == spareWord })
	enrol(r, w.Store, func(e impl.Entry) bool { return e == spareEntry })
	enrol(r, w.Trace, func(e impl.Event) bool { return sameEvent(e, spareEvent) })
	for _, e := range w.Trace {
		r.text(e.Lit)
	}
}

// spoilWorld writes over all that can be reached by w.
func spoilWorld(w impl.World) {
	for _, e := range w.Trace {
		scribble(e.Lit)
	}
	draws, store, trace := w.Draws[:cap(w.Draws)], w.Store[:cap(w.Store)], w.Trace[:cap(w.Trace)]
	for i := range draws {
		draws[i] = ^draws[i]
	}
	for i, e := range store {
		store[i] = impl.Entry{Key: ^e.Key, Value: ^e.Value}
	}
	for i, e := range trace {
		trace[i] = impl.Event{Cap: ^e.Cap, A: ^e.A, B: ^e.B, Res: ^e.Res}
	}
}

// noSpareBehind: the room behind the lists of an answer holds nothing of what lay behind the argument's.
func noSpareBehind(w impl.World) bool {
	ok := !slices.Contains(w.Draws[:cap(w.Draws)], spareWord) && !slices.Contains(w.Store[:cap(w.Store)], spareEntry) &&
		!slices.ContainsFunc(w.Trace[:cap(w.Trace)], func(e impl.Event) bool { return sameEvent(e, spareEvent) })
	for _, e := range w.Trace {
		ok = ok && !slices.Contains(e.Lit[len(e.Lit):cap(e.Lit)], spareByte)
	}
	return ok
}

// memoryWorlds are good and bad ones, all with traces short enough to be gone through often.
func memoryWorlds() []worldCase {
	list := slices.DeleteFunc(append(goodWorlds(), badWorlds()...), func(c worldCase) bool { return len(c.world.Trace) > 100 })
	for seed := range 60 {
		walk := &walk{state: uint64(seed)}
		list = append(list, worldCase{fmt.Sprint("seed ", seed), walk.someWorld()})
	}
	return append(list, worldCase{"some hundred events", withTrace(fullWorld(), traceOf(300))})
}

// memoryCalls are, of each kind, some that do something and some that are refused.
func memoryCalls(w impl.World) []impl.Event {
	calls := []impl.Event{{Cap: -1, Lit: []byte("a")}, {Cap: impl.CapPut, A: math.MinInt, Lit: []byte("a")}, {Cap: impl.CapPrint, Lit: make([]byte, impl.MaxBlock+1)}}
	for _, kind := range allCaps {
		calls = append(calls, impl.Event{Cap: kind, A: 9, B: 4, Lit: []byte("some bytes")}, impl.Event{Cap: kind, A: -9})
		for _, e := range w.Store {
			calls = append(calls, impl.Event{Cap: kind, A: e.Key, B: 4, Lit: []byte("a")})
		}
	}
	return calls
}

// TestForeignHasMemoryOfItsOwn: nothing is written into an argument nor behind its lists, what lies there is neither read
// nor handed out, and no two lists of what is answered are one, nor one of the arguments'.
func TestForeignHasMemoryOfItsOwn(t *testing.T) {
	for _, c := range memoryWorlds() {
		for _, call := range memoryCalls(c.world) {
			what := fmt.Sprintf("%s, kind %d, %d, %d", c.name, call.Cap, call.A, call.B)
			plain, plainRes, plainOk := impl.Foreign(c.world, call.Cap, call.A, call.B, call.Lit)
			arg, lit := roomyWorld(c.world), roomy(string(call.Lit))
			got, res, ok := impl.Foreign(arg, call.Cap, call.A, call.B, lit)
			other, _, _ := impl.Foreign(arg, call.Cap, call.A, call.B, lit)
			if ok != plainOk || res != plainRes || !sameWorld(got, plain) || !sameWorld(other, plain) || impl.WorldOk(arg) != impl.WorldOk(c.world) {
				t.Errorf("%s: what lies behind a list was read", what)
			}
			if !noSpareBehind(got) {
				t.Errorf("%s: what lies behind a list was handed out", what)
			}
			all := newRoll()
			all.world(arg)
			all.text(lit)
			if all.spoilt || !sameWorld(arg, c.world) || !sameText(lit, call.Lit) {
				t.Errorf("%s: an argument was changed", what)
			}
			all.world(got)
			all.world(other)
			if all.shared {
				t.Errorf("%s: lists that share memory", what)
			}
			kept := copyWorld(plain)
			spoilWorld(arg)
			scribble(lit)
			if !sameWorld(got, kept) {
				t.Errorf("%s: the answer changes with an argument", what)
			}
			spoilWorld(got)
			again, resAgain, okAgain := impl.Foreign(c.world, call.Cap, call.A, call.B, call.Lit)
			if okAgain != plainOk || resAgain != plainRes || !sameWorld(again, kept) || !sameWorld(other, kept) {
				t.Errorf("%s: an answer was kept", what)
			}
		}
	}
}

// TestForeignOfWorldsWhosePartsShare: bytes that stand in several events, and in lit, are copied for each.
func TestForeignOfWorldsWhosePartsShare(t *testing.T) {
	lit := roomy("shared")
	w := impl.World{Draws: []int{1, 2}, Trace: []impl.Event{{Lit: lit}, {Cap: 1, Lit: lit[:3]}, {Lit: lit[2:]}, {Lit: lit}}}
	for _, kind := range allCaps {
		got, _, ok := impl.Foreign(w, kind, 7, 1, lit[1:5])
		if !ok || !slices.EqualFunc(got.Trace[:4], w.Trace, sameEvent) || kind == impl.CapPrint && string(got.Trace[4].Lit) != "hare" {
			t.Errorf("kind %d: %s, %v", kind, sayWorld(got), ok)
		}
		all := newRoll()
		all.text(lit)
		all.world(got)
		if all.shared {
			t.Errorf("kind %d: what comes shares as what it came of", kind)
		}
	}
	wantRoomy(t, "lit", lit, "shared")
}

// TestForeignKeepsNothing: a call does the same however many others were made ahead of it.
func TestForeignKeepsNothing(t *testing.T) {
	w := fullWorld()
	calls := memoryCalls(w)
	type answer struct {
		world impl.World
		res   int
		ok    bool
	}
	var first []answer
	for _, call := range calls {
		world, res, ok := impl.Foreign(w, call.Cap, call.A, call.B, call.Lit)
		first = append(first, answer{copyWorld(world), res, ok})
	}
	walk := &walk{state: 11}
	for range 2000 {
		i := walk.below(len(calls))
		call := calls[i]
		world, res, ok := impl.Foreign(w, call.Cap, call.A, call.B, call.Lit)
		if !sameWorld(world, first[i].world) || res != first[i].res || ok != first[i].ok {
			t.Fatalf("kind %d, %d, %d: %s, %d, %v", call.Cap, call.A, call.B, sayWorld(world), res, ok)
		}
		if walk.below(4) == 0 {
			spoilWorld(world)
		}
		kind, a, b, lit := walk.someCall()
		impl.Foreign(walk.someWorld(), kind, a, b, lit)
	}
}

// TestAskingChangesNoWorld: WorldOk neither writes nor reads behind a list.
func TestAskingChangesNoWorld(t *testing.T) {
	for _, c := range append(goodWorlds(), badWorlds()...) {
		arg := roomyWorld(c.world)
		if impl.WorldOk(arg) != rawWorldOk(c.world) || impl.WorldOk(arg) != impl.WorldOk(c.world) {
			t.Errorf("%s: what lies behind a list was read", c.name)
		}
		all := newRoll()
		all.world(arg)
		if all.spoilt || !sameWorld(arg, c.world) {
			t.Errorf("%s: the argument was changed", c.name)
		}
	}
}
