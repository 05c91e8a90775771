package tests

import (
	"fmt"
	"math"
	"slices"
	"testing"

	"loop.example/g00293/impl"
)

func bindOf(v int, t impl.Ty) impl.Bind {
	return impl.Bind{Var: v, Ty: t}
}

// The raw functions below do with plain lists what the document's words say; a type that comes of them may be none.

func rawOk(t impl.Ty) bool {
	return rawSize(t) <= impl.MaxSize && rawDepth(t) <= impl.MaxDepth
}

func rawNames(t impl.Ty, v int) bool {
	return t.Kind == impl.TyVar && t.N == v || slices.ContainsFunc(t.Args, func(arg impl.Ty) bool { return rawNames(arg, v) })
}

func rawBound(list []impl.Bind, v int) int {
	return slices.IndexFunc(list, func(b impl.Bind) bool { return b.Var == v })
}

// rawBindsOk takes for granted that each Ty is a type.
func rawBindsOk(list []impl.Bind) bool {
	for i, bind := range list {
		if bind.Var < 0 || bind.Var >= impl.MaxVar || rawBound(list[:i], bind.Var) >= 0 {
			return false
		}
		for _, other := range list[:i+1] {
			if rawNames(bind.Ty, other.Var) {
				return false
			}
		}
	}
	return len(list) <= impl.MaxBinds
}

// rawOnce puts for each bound variable what it is bound to, as that stands there.
func rawOnce(list []impl.Bind, t impl.Ty) impl.Ty {
	if t.Kind == impl.TyVar {
		if at := rawBound(list, t.N); at >= 0 {
			return list[at].Ty
		}
		return t
	}
	got := impl.Ty{Kind: t.Kind, N: t.N}
	for _, arg := range t.Args {
		got.Args = append(got.Args, rawOnce(list, arg))
	}
	return got
}

// rawResolve goes on by rawOnce until nothing changes; no step makes a type smaller or less deep.
func rawResolve(list []impl.Bind, t impl.Ty) (impl.Ty, bool) {
	for rawOk(t) {
		next := rawOnce(list, t)
		if rawSame(next, t) {
			return t, true
		}
		t = next
	}
	return impl.Ty{}, false
}

func rawAlike(list []impl.Bind, a impl.Ty, b impl.Ty) ([]impl.Bind, bool) {
	a, aOk := rawResolve(list, a)
	b, bOk := rawResolve(list, b)
	if !aOk || !bOk {
		return nil, false
	}
	aVar, bVar := a.Kind == impl.TyVar, b.Kind == impl.TyVar
	if aVar && bVar && a.N == b.N {
		return list, true
	}
	if aVar {
		return append(slices.Clone(list), bindOf(a.N, b)), !rawNames(b, a.N)
	}
	if bVar {
		return append(slices.Clone(list), bindOf(b.N, a)), !rawNames(a, b.N)
	}
	if a.Kind != b.Kind || a.N != b.N || len(a.Args) != len(b.Args) {
		return nil, false
	}
	ok := true
	for i := 0; ok && i < len(a.Args); i++ {
		list, ok = rawAlike(list, a.Args[i], b.Args[i])
	}
	return list, ok
}

func rawUnify(list []impl.Bind, a impl.Ty, b impl.Ty) ([]impl.Bind, bool) {
	then, ok := rawAlike(list, a, b)
	if !ok {
		return nil, false
	}
	if _, ok := rawResolve(then, a); !ok {
		return nil, false
	}
	return then, true
}

func sameBind(a impl.Bind, b impl.Bind) bool {
	return a.Var == b.Var && rawSame(a.Ty, b.Ty)
}

func sameBinds(a []impl.Bind, b []impl.Bind) bool {
	return slices.EqualFunc(a, b, sameBind)
}

func sayBinds(list []impl.Bind) string {
	text := "binds"
	for i, bind := range list {
		if i == 6 {
			return text + fmt.Sprint(" and ", len(list)-i, " more")
		}
		text += fmt.Sprint(" '", bind.Var, "=", rawText(bind.Ty))
	}
	return text
}

func wantBindsOk(t *testing.T, what string, list []impl.Bind, ok bool) {
	t.Helper()
	if impl.BindsOk(list) != ok {
		t.Errorf("%s: BindsOk is %v", what, !ok)
	}
}

func wantResolved(t *testing.T, list []impl.Bind, ty impl.Ty, want impl.Ty) {
	t.Helper()
	if got, ok := impl.Resolve(list, ty); !ok || !rawSame(got, want) {
		t.Errorf("%s resolved by %s: %s, %v", rawText(ty), sayBinds(list), rawText(got), ok)
	}
}

func wantNotResolved(t *testing.T, what string, list []impl.Bind, ty impl.Ty) {
	t.Helper()
	if got, ok := impl.Resolve(list, ty); ok || !isZeroTy(got) {
		t.Errorf("%s: resolved: %s, %v", what, rawText(got), ok)
	}
}

// wantUnified looks for list with just these new binds behind it, and for what the promise says of that.
func wantUnified(t *testing.T, list []impl.Bind, a impl.Ty, b impl.Ty, news ...impl.Bind) {
	t.Helper()
	got, ok := impl.Unify(list, a, b)
	if !ok || !sameBinds(got, slices.Concat(list, news)) {
		t.Errorf("%s and %s by %s: %s, %v", rawText(a), rawText(b), sayBinds(list), sayBinds(got), ok)
		return
	}
	if len(got) <= impl.MaxBinds {
		wantPromise(t, list, got, a, b)
	}
}

func wantPromise(t *testing.T, was []impl.Bind, list []impl.Bind, a impl.Ty, b impl.Ty) {
	t.Helper()
	what := fmt.Sprintf("%s and %s by %s", rawText(a), rawText(b), sayBinds(list))
	if !impl.BindsOk(list) {
		t.Errorf("%s: not BindsOk", what)
	}
	if len(list) < len(was) || !sameBinds(list[:len(was)], was) {
		t.Errorf("%s: what was bound does not stay", what)
	}
	one, oneOk := impl.Resolve(list, a)
	other, otherOk := impl.Resolve(list, b)
	if !oneOk || !otherOk || !rawSame(one, other) || !impl.TyOk(one) {
		t.Errorf("%s: resolved to %s and %s", what, rawText(one), rawText(other))
	}
	if again, ok := impl.Resolve(list, one); !ok || !rawSame(again, one) {
		t.Errorf("%s: %s resolves to %s", what, rawText(one), rawText(again))
	}
}

func wantNotUnified(t *testing.T, what string, list []impl.Bind, a impl.Ty, b impl.Ty) {
	t.Helper()
	if got, ok := impl.Unify(list, a, b); ok || len(got) > 0 {
		t.Errorf("%s: unified: %s, %v", what, sayBinds(got), ok)
	}
}

// wantNeitherUnified asks both ways round.
func wantNeitherUnified(t *testing.T, what string, list []impl.Bind, a impl.Ty, b impl.Ty) {
	t.Helper()
	wantNotUnified(t, what, list, a, b)
	wantNotUnified(t, what+", the other way round", list, b, a)
}

// bindsTo binds so many variables, from 0 on, all to t.
func bindsTo(count int, t impl.Ty) []impl.Bind {
	list := make([]impl.Bind, count)
	for i := range list {
		list[i] = bindOf(i, t)
	}
	return list
}

// stairs binds so many variables, from 0 on, each to wrap of the next one.
func stairs(count int, wrap func(impl.Ty) impl.Ty) []impl.Bind {
	list := make([]impl.Bind, count)
	for i := range list {
		list[i] = bindOf(i, wrap(tyVar(i+1)))
	}
	return list
}

func plain(t impl.Ty) impl.Ty {
	return t
}

func twice(t impl.Ty) impl.Ty {
	return tyOf(impl.TyPair, t, t)
}

func inRef(t impl.Ty) impl.Ty {
	return tyOf(impl.TyRef, t)
}

// refs answers a type of that depth.
func refs(depth int, leaf impl.Ty) impl.Ty {
	return chain(depth, leaf, inRef)
}

func goodBinds() map[string][]impl.Bind {
	pair := tyOf(impl.TyPair, tyVar(3), tyVar(4))
	return map[string][]impl.Bind{
		"none":                          {},
		"nil":                           nil,
		"the first variable":            {bindOf(0, tyInt)},
		"the last variable":             {bindOf(impl.MaxVar-1, tyInt)},
		"to the last variable":          {bindOf(0, tyVar(impl.MaxVar-1))},
		"to a variable below":           {bindOf(1, tyVar(0))},
		"to a variable above":           {bindOf(0, tyVar(1))},
		"Vars that do not ascend":       {bindOf(7, tyInt), bindOf(2, tyText), bindOf(5, tyUnit), bindOf(0, tyData(3))},
		"to the Var of the next":        {bindOf(0, tyVar(1)), bindOf(1, tyInt)},
		"to the Var of the last":        {bindOf(0, pair), bindOf(1, tyInt), bindOf(2, tyVar(3)), bindOf(3, tyText)},
		"to the Vars of two later":      {bindOf(9, pair), bindOf(4, tyInt), bindOf(3, tyText)},
		"within the Var of a later":     {bindOf(5, refs(impl.MaxDepth, tyVar(4))), bindOf(4, tyInt)},
		"several to one":                {bindOf(0, tyVar(9)), bindOf(1, tyVar(9)), bindOf(2, tyVar(9))},
		"a data whose N is Var":         {bindOf(3, tyData(3)), bindOf(4, tyData(3, tyData(4), tyInt))},
		"the largest and the deepest":   {bindOf(8, evenTree(impl.MaxSize)), bindOf(9, refs(impl.MaxDepth, tyInt))},
		"MaxBinds":                      bindsTo(impl.MaxBinds, tyInt),
		"one below MaxBinds":            bindsTo(impl.MaxBinds-1, tyInt),
		"MaxBinds, each to the next":    stairs(impl.MaxBinds, plain),
		"MaxBinds, each twice the next": stairs(impl.MaxBinds, twice),
	}
}

// badBinds miss what BindsOk says by one; each Ty is a type.
func badBinds() map[string][]impl.Bind {
	cases := map[string][]impl.Bind{
		"one above MaxBinds":       bindsTo(impl.MaxBinds+1, tyInt),
		"far above MaxBinds":       make([]impl.Bind, 1000000),
		"a Var twice":              {bindOf(4, tyInt), bindOf(4, tyInt)},
		"a Var twice, unlike":      {bindOf(4, tyInt), bindOf(4, tyText)},
		"a Var twice, far apart":   append(bindsTo(impl.MaxBinds-1, tyInt), bindOf(0, tyInt)),
		"a Var twice, the last":    append(bindsTo(impl.MaxBinds-1, tyInt), bindOf(impl.MaxBinds-2, tyInt)),
		"a Var twice, 0":           {bindOf(0, tyInt), bindOf(1, tyInt), bindOf(0, tyVar(2))},
		"to itself":                {bindOf(0, tyVar(0))},
		"to itself, the last":      {bindOf(impl.MaxVar-1, tyVar(impl.MaxVar-1))},
		"to itself, behind others": {bindOf(0, tyInt), bindOf(1, tyInt), bindOf(2, tyVar(2))},
		"to an earlier Var":        {bindOf(0, tyInt), bindOf(1, tyVar(0))},
		"to an earlier Var, open":  {bindOf(0, tyVar(1)), bindOf(2, tyVar(0))},
		"in a ring":                {bindOf(0, tyVar(1)), bindOf(1, tyVar(0))},
		"in a greater ring":        {bindOf(0, tyVar(1)), bindOf(1, tyVar(2)), bindOf(2, refs(3, tyVar(0)))},
		"to the first of many":     append(bindsTo(impl.MaxBinds-1, tyInt), bindOf(1000, tyVar(0))),
		"to the last but one":      append(bindsTo(impl.MaxBinds-1, tyInt), bindOf(1000, tyVar(impl.MaxBinds-2))),
	}
	back := stairs(impl.MaxBinds, plain)
	slices.Reverse(back)
	cases["MaxBinds, each to the one ahead"] = back
	for _, w := range wraps() {
		cases["within itself: "+w.name] = []impl.Bind{bindOf(6, tyInt), bindOf(5, w.wrap(w.wrap(tyVar(5))))}
		cases["within an earlier Var: "+w.name] = []impl.Bind{bindOf(6, tyInt), bindOf(7, tyInt), bindOf(5, w.wrap(tyVar(6)))}
	}
	for _, v := range []int{-1, impl.MaxVar, impl.MaxVar + 1, math.MinInt, math.MaxInt} {
		cases[fmt.Sprint("Var ", v)] = []impl.Bind{bindOf(v, tyInt)}
		cases[fmt.Sprint("Var ", v, ", ahead of others")] = []impl.Bind{bindOf(v, tyInt), bindOf(1, tyInt), bindOf(2, tyInt)}
		cases[fmt.Sprint("Var ", v, ", behind others")] = []impl.Bind{bindOf(1, tyInt), bindOf(2, tyInt), bindOf(v, tyInt)}
	}
	return cases
}

func TestLimitsOfBinds(t *testing.T) {
	if impl.MaxBinds != 400 {
		t.Error(impl.MaxBinds)
	}
}

func TestBindsOkTakesBinds(t *testing.T) {
	for name, list := range goodBinds() {
		wantBindsOk(t, name, list, true)
	}
}

func TestBindsOkRefusesAllElse(t *testing.T) {
	for name, list := range badBinds() {
		wantBindsOk(t, name, list, false)
	}
}

func TestBindsOkOfWhatIsNoType(t *testing.T) {
	for _, c := range noTypes() {
		for at := range 3 {
			list := slices.Insert([]impl.Bind{bindOf(1, tyInt), bindOf(2, tyText)}, at, bindOf(0, c.ty))
			wantBindsOk(t, c.name, list, false)
		}
	}
}

// TestEveryOrderOfBinds: to name a later Var may be, in whatever order the numbers are.
func TestEveryOrderOfBinds(t *testing.T) {
	for _, vars := range [][]int{{0, 1, 2}, {0, 2, 1}, {1, 0, 2}, {1, 2, 0}, {2, 0, 1}, {2, 1, 0}} {
		for at := range 3 {
			for named := range 3 {
				list := []impl.Bind{bindOf(vars[0], tyInt), bindOf(vars[1], tyInt), bindOf(vars[2], tyInt)}
				list[at].Ty = tyOf(impl.TyFun, tyUnit, tyVar(vars[named]))
				wantBindsOk(t, sayBinds(list), list, named > at)
			}
		}
	}
}

// someBinds are binds that may be or just not: some of them name an earlier Var, or have one.
func (w *walk) someBinds(count int, vars int) []impl.Bind {
	var list []impl.Bind
	for range count {
		list = append(list, bindOf(w.below(vars), w.someSmall(6, vars)))
	}
	return list
}

// someSmall is a type of at most that size, below MaxSize.
func (w *walk) someSmall(size int, vars int) impl.Ty {
	for {
		if t := w.someType(1+w.below(4), vars); rawSize(t) <= size {
			return t
		}
	}
}

// someBindsOk are binds that may be, at most so many, each to a type of at most that size.
func (w *walk) someBindsOk(count int, size int, vars int) []impl.Bind {
	var list []impl.Bind
	for range 3 * count {
		next := append(slices.Clone(list), bindOf(w.below(vars), w.someSmall(size, vars)))
		if rawBindsOk(next) && len(next) <= count {
			list = next
		}
	}
	return list
}

func TestManyBindsAgainstTheWords(t *testing.T) {
	w := &walk{state: 41}
	count := [2]int{}
	for range 6000 {
		list := w.someBinds(w.below(5), 12)
		ok := rawBindsOk(list)
		wantBindsOk(t, sayBinds(list), list, ok)
		if ok {
			count[1]++
		} else {
			count[0]++
		}
	}
	if count[0] < 500 || count[1] < 500 {
		t.Errorf("the test's own binds: %v", count)
	}
}

func TestResolveByNoBinds(t *testing.T) {
	for _, ty := range sampleTypes() {
		wantResolved(t, nil, ty, ty)
		wantResolved(t, []impl.Bind{}, ty, ty)
		wantResolved(t, []impl.Bind{bindOf(77777, tyInt)}, ty, ty)
	}
}

func TestResolveGoesThroughBinds(t *testing.T) {
	list := []impl.Bind{bindOf(5, tyOf(impl.TyPair, tyVar(3), tyVar(4))), bindOf(3, tyVar(2)), bindOf(2, inRef(tyVar(1))), bindOf(1, tyInt)}
	wantResolved(t, list, tyVar(1), tyInt)
	wantResolved(t, list, tyVar(2), inRef(tyInt))
	wantResolved(t, list, tyVar(3), inRef(tyInt))
	wantResolved(t, list, tyVar(5), tyOf(impl.TyPair, inRef(tyInt), tyVar(4)))
	wantResolved(t, list, tyVar(4), tyVar(4))
	wantResolved(t, list, tyVar(0), tyVar(0))
	wantResolved(t, list, tyData(5, tyVar(5), tyVar(4), tyVar(2)), tyData(5, tyOf(impl.TyPair, inRef(tyInt), tyVar(4)), tyVar(4), inRef(tyInt)))
	for _, w := range wraps() {
		wantResolved(t, []impl.Bind{bindOf(500, tyVar(600)), bindOf(600, tyText)}, w.wrap(w.wrap(tyVar(500))), w.wrap(w.wrap(tyText)))
	}
	for _, count := range []int{1, 2, 3, impl.MaxBinds - 1, impl.MaxBinds} {
		wantResolved(t, stairs(count, plain), tyVar(0), tyVar(count))
		wantResolved(t, stairs(count, plain), tyOf(impl.TyFun, tyVar(count-1), tyVar(0)), tyOf(impl.TyFun, tyVar(count), tyVar(count)))
	}
}

// TestResolveLeavesOtherNumbers: N is that of a variable only where the kind is TyVar.
func TestResolveLeavesOtherNumbers(t *testing.T) {
	list := []impl.Bind{bindOf(0, tyText), bindOf(1, tyData(0)), bindOf(2, tyData(1, tyVar(7)))}
	for _, ty := range []impl.Ty{tyUnit, tyInt, tyText, tyData(0), tyData(1), tyData(2, tyInt)} {
		wantResolved(t, list, ty, ty)
	}
	wantResolved(t, list, tyData(2, tyVar(2), tyVar(1)), tyData(2, tyData(1, tyVar(7)), tyData(0)))
}

func TestResolveByBindsThatMayNotBe(t *testing.T) {
	for name, list := range badBinds() {
		for _, ty := range []impl.Ty{tyInt, tyVar(0), tyVar(1), tyVar(5), tyVar(9999)} {
			wantNotResolved(t, name, list, ty)
		}
	}
	for _, c := range noTypes() {
		wantNotResolved(t, c.name, []impl.Bind{bindOf(0, tyInt), bindOf(1, c.ty)}, tyVar(0))
	}
}

func TestResolveOfWhatIsNoType(t *testing.T) {
	for _, c := range noTypes() {
		wantNotResolved(t, c.name, nil, c.ty)
		wantNotResolved(t, c.name, []impl.Bind{bindOf(0, tyInt), bindOf(3, tyVar(9))}, c.ty)
	}
	for name, list := range badBinds() {
		wantNotResolved(t, name, list, tyVar(-1))
	}
}

func TestResolveHoldsTheDepth(t *testing.T) {
	for _, w := range wraps() {
		for depth := 1; depth <= impl.MaxDepth; depth++ {
			for put := 1; put <= impl.MaxDepth; put++ {
				ty := chain(depth, tyVar(50), w.wrap)
				list := []impl.Bind{bindOf(50, tyVar(51)), bindOf(51, refs(put, tyText))}
				if depth-1+put <= impl.MaxDepth {
					wantResolved(t, list, ty, chain(depth, refs(put, tyText), w.wrap))
				} else {
					wantNotResolved(t, w.name, list, ty)
				}
			}
		}
	}
	for steps := range impl.MaxDepth {
		wantResolved(t, stairs(steps, inRef), tyVar(0), refs(steps+1, tyVar(steps)))
	}
	wantNotResolved(t, "one stair too many", stairs(impl.MaxDepth, inRef), tyVar(0))
	wantResolved(t, stairs(impl.MaxDepth, inRef), tyVar(1), refs(impl.MaxDepth, tyVar(impl.MaxDepth)))
	wantNotResolved(t, "many stairs", stairs(impl.MaxBinds, inRef), tyVar(0))
}

// TestResolveHoldsTheSize: what stands beside the variables counts, and what they are bound to, each time.
func TestResolveHoldsTheSize(t *testing.T) {
	for beside := 1; beside <= impl.MaxSize-3; beside++ {
		ty := tyData(0, tyVar(90), evenTree(beside), tyVar(90))
		for put := 1; put <= impl.MaxSize; put++ {
			list := []impl.Bind{bindOf(90, evenTree(put))}
			if size := 1 + beside + 2*put; size <= impl.MaxSize {
				wantResolved(t, list, ty, tyData(0, evenTree(put), evenTree(beside), evenTree(put)))
			} else {
				wantNotResolved(t, fmt.Sprint("size ", size), list, ty)
			}
		}
	}
	largest := evenTree(impl.MaxSize)
	wantResolved(t, []impl.Bind{bindOf(0, tyVar(5)), bindOf(5, largest)}, tyVar(0), largest)
	wantNotResolved(t, "ref of MaxSize", []impl.Bind{bindOf(0, tyVar(5)), bindOf(5, largest)}, inRef(tyVar(0)))
}

// TestResolveOfFarTooMuch ends at once, though what would come has more parts than anybody can go through.
func TestResolveOfFarTooMuch(t *testing.T) {
	for _, wrap := range []func(impl.Ty) impl.Ty{twice, func(t impl.Ty) impl.Ty { return tyData(0, t, t, t) }, func(t impl.Ty) impl.Ty { return tyOf(impl.TyPair, tyInt, t) }} {
		list := stairs(impl.MaxBinds, wrap)
		wantNotResolved(t, "stairs", list, tyVar(0))
		wantNotResolved(t, "stairs", list, twice(tyVar(7)))
		wantNotUnified(t, "stairs", list, tyVar(0), tyVar(0))
		wantNeitherUnified(t, "stairs", list, tyVar(0), tyVar(99999))
		wantResolved(t, list, tyVar(impl.MaxBinds-1), wrap(tyVar(impl.MaxBinds)))
	}
	wantResolved(t, stairs(4, twice), tyVar(0), twice(twice(twice(twice(tyVar(4))))))
	wantNotResolved(t, "a size of 63", stairs(5, twice), tyVar(0))
}

func TestManyResolvedAgainstTheWords(t *testing.T) {
	w := &walk{state: 42}
	count := [2]int{}
	for range 4000 {
		list, ty := w.someBindsOk(w.below(12), 12, 14), w.someOk(14)
		if w.below(2) == 0 {
			ty = w.blurred(evenTree(1+w.below(impl.MaxSize)), 14)
		}
		if want, ok := rawResolve(list, ty); ok {
			wantResolved(t, list, ty, want)
			count[1]++
		} else {
			wantNotResolved(t, rawText(ty), list, ty)
			count[0]++
		}
	}
	if count[0] < 200 || count[1] < 500 {
		t.Errorf("the test's own types: %v", count)
	}
}

func TestUnifyOfOneVariable(t *testing.T) {
	for _, n := range []int{0, 1, impl.MaxVar - 1} {
		wantUnified(t, nil, tyVar(n), tyVar(n))
		wantUnified(t, []impl.Bind{bindOf(7, tyInt)}, tyVar(n), tyVar(n))
	}
	list := []impl.Bind{bindOf(0, tyVar(2)), bindOf(1, tyVar(2)), bindOf(4, tyVar(5)), bindOf(5, tyVar(2))}
	for _, pair := range [][2]int{{0, 2}, {2, 0}, {0, 1}, {1, 0}, {0, 0}, {4, 1}, {2, 4}, {5, 4}} {
		wantUnified(t, list, tyVar(pair[0]), tyVar(pair[1]))
	}
	bound := []impl.Bind{bindOf(3, tyOf(impl.TyFun, tyVar(8), tyInt))}
	wantUnified(t, bound, tyVar(3), tyVar(3))
}

func TestUnifyOfTypesThatAreTheSame(t *testing.T) {
	for _, ty := range sampleTypes() {
		wantUnified(t, nil, ty, ty)
		wantUnified(t, []impl.Bind{bindOf(60000, tyInt), bindOf(70000, tyVar(5))}, ty, ty)
	}
}

func TestUnifyOfAVariableAndAnotherType(t *testing.T) {
	for _, n := range []int{0, 8, impl.MaxVar - 1} {
		for _, ty := range sampleTypes() {
			if ty.Kind == impl.TyVar || rawNames(ty, n) {
				continue
			}
			wantUnified(t, nil, tyVar(n), ty, bindOf(n, ty))
			wantUnified(t, nil, ty, tyVar(n), bindOf(n, ty))
			before := []impl.Bind{bindOf(60000, tyText), bindOf(50000, tyVar(n))}
			wantUnified(t, before, tyVar(n), ty, bindOf(n, ty))
			wantUnified(t, before, ty, tyVar(n), bindOf(n, ty))
			wantUnified(t, before, tyVar(50000), ty, bindOf(n, ty))
			wantUnified(t, before, ty, tyVar(50000), bindOf(n, ty))
		}
	}
}

// TestUnifyOfTwoVariables: the first one is bound to the second one, whichever number is greater.
func TestUnifyOfTwoVariables(t *testing.T) {
	wantUnified(t, nil, tyVar(0), tyVar(1), bindOf(0, tyVar(1)))
	wantUnified(t, nil, tyVar(1), tyVar(0), bindOf(1, tyVar(0)))
	wantUnified(t, nil, tyVar(impl.MaxVar-1), tyVar(0), bindOf(impl.MaxVar-1, tyVar(0)))
	wantUnified(t, nil, tyVar(0), tyVar(impl.MaxVar-1), bindOf(0, tyVar(impl.MaxVar-1)))
	list := []impl.Bind{bindOf(0, tyVar(1)), bindOf(2, tyVar(3)), bindOf(9, tyInt)}
	wantUnified(t, list, tyVar(0), tyVar(2), bindOf(1, tyVar(3)))
	wantUnified(t, list, tyVar(2), tyVar(0), bindOf(3, tyVar(1)))
	wantUnified(t, list, tyVar(1), tyVar(2), bindOf(1, tyVar(3)))
	wantUnified(t, list, tyVar(5), tyVar(0), bindOf(5, tyVar(1)))
	wantUnified(t, list, tyVar(0), tyVar(5), bindOf(1, tyVar(5)))
	wantUnified(t, list, twice(tyVar(0)), twice(tyVar(2)), bindOf(1, tyVar(3)))
}

// TestUnifyBindsToWhatIsResolved: behind earlier binds no Ty names their Vars.
func TestUnifyBindsToWhatIsResolved(t *testing.T) {
	list := []impl.Bind{bindOf(1, tyOf(impl.TyPair, tyVar(2), tyInt)), bindOf(2, tyText)}
	whole := tyOf(impl.TyPair, tyText, tyInt)
	wantUnified(t, list, tyVar(0), tyVar(1), bindOf(0, whole))
	wantUnified(t, list, tyVar(1), tyVar(0), bindOf(0, whole))
	wantUnified(t, list, tyVar(0), tyData(4, tyVar(1), tyVar(3)), bindOf(0, tyData(4, whole, tyVar(3))))
	wantUnified(t, list, tyData(4, tyVar(1), tyVar(3)), tyVar(0), bindOf(0, tyData(4, whole, tyVar(3))))
	wantUnified(t, list, tyVar(1), tyOf(impl.TyPair, tyVar(5), tyVar(6)), bindOf(5, tyText), bindOf(6, tyInt))
	wantUnified(t, list, tyOf(impl.TyPair, tyVar(5), tyVar(6)), tyVar(1), bindOf(5, tyText), bindOf(6, tyInt))
	wantUnified(t, list, tyVar(1), whole)
	wantNeitherUnified(t, "bound otherwise", list, tyVar(1), tyOf(impl.TyPair, tyInt, tyInt))
	wantNeitherUnified(t, "bound otherwise", list, tyVar(2), tyInt)
}

func TestUnifyOfAVariableWithinItself(t *testing.T) {
	for _, w := range wraps() {
		for _, inner := range []impl.Ty{w.wrap(tyVar(5)), w.wrap(w.wrap(tyVar(5))), w.wrap(inRef(tyVar(5)))} {
			wantNeitherUnified(t, w.name, nil, tyVar(5), inner)
			wantNeitherUnified(t, w.name+", as parts", nil, tyOf(impl.TyFun, tyInt, tyVar(5)), tyOf(impl.TyFun, tyVar(77), inner))
			wantNeitherUnified(t, w.name+", behind a bind", []impl.Bind{bindOf(60, inner)}, tyVar(5), tyVar(60))
			wantNeitherUnified(t, w.name+", behind two binds", []impl.Bind{bindOf(61, inRef(tyVar(60))), bindOf(60, inner)}, tyVar(5), tyVar(61))
			wantNeitherUnified(t, w.name+", behind itself", []impl.Bind{bindOf(60, tyVar(5))}, tyVar(60), inner)
			wantNeitherUnified(t, w.name+", behind itself within", []impl.Bind{bindOf(60, tyVar(5)), bindOf(61, inner)}, tyVar(60), tyVar(61))
		}
	}
	wantNeitherUnified(t, "behind the first Arg", nil, tyOf(impl.TyPair, tyVar(0), tyVar(0)), tyOf(impl.TyPair, inRef(tyVar(1)), tyVar(1)))
	wantNeitherUnified(t, "behind both Args", nil, tyOf(impl.TyPair, tyVar(0), tyVar(1)), tyOf(impl.TyPair, inRef(tyVar(1)), inRef(tyVar(0))))
	wantNeitherUnified(t, "in a ring of three", nil, tyData(0, tyVar(0), tyVar(1), tyVar(2)), tyData(0, inRef(tyVar(1)), inRef(tyVar(2)), inRef(tyVar(0))))
	// A data whose N is that of the variable does not name it.
	wantUnified(t, nil, tyVar(5), tyData(5, tyInt), bindOf(5, tyData(5, tyInt)))
}

// unlike are types none of which has a variable, no two the same.
func unlike() []impl.Ty {
	return []impl.Ty{
		tyUnit, tyInt, tyText,
		tyOf(impl.TyPair, tyInt, tyInt), tyOf(impl.TyPair, tyInt, tyText), tyOf(impl.TyPair, tyText, tyInt),
		tyOf(impl.TyFun, tyInt, tyInt), inRef(tyInt), inRef(tyText), inRef(inRef(tyInt)),
		tyData(0), tyData(1), tyData(19),
		tyData(0, tyInt), tyData(1, tyInt), tyData(0, tyText),
		tyData(0, tyInt, tyInt), tyData(1, tyInt, tyInt), tyData(0, tyInt, tyInt, tyInt), tyData(0, tyInt, tyInt, tyText),
	}
}

func TestUnifyOfTypesThatAreUnlike(t *testing.T) {
	for i, a := range unlike() {
		for j, b := range unlike() {
			if i == j {
				wantUnified(t, nil, a, b)
				continue
			}
			wantNotUnified(t, rawText(a), nil, a, b)
			wantNotUnified(t, rawText(a)+" behind binds", []impl.Bind{bindOf(0, a), bindOf(1, b)}, tyVar(0), tyVar(1))
			wantNotUnified(t, rawText(a)+" as a first part", nil, tyOf(impl.TyPair, a, tyVar(0)), tyOf(impl.TyPair, b, tyInt))
			wantNotUnified(t, rawText(a)+" as a last part", nil, tyData(3, tyVar(0), tyVar(1), a), tyData(3, tyInt, tyText, b))
		}
	}
}

// TestUnifyOfTopsThatDiffer: the Args could be made alike, the kind, N or their number not.
func TestUnifyOfTopsThatDiffer(t *testing.T) {
	v, u := tyVar(0), tyVar(1)
	wantNeitherUnified(t, "pair and fun", nil, tyOf(impl.TyPair, v, v), tyOf(impl.TyFun, u, u))
	wantNeitherUnified(t, "data 0 and 1", nil, tyData(0, v), tyData(1, u))
	wantNeitherUnified(t, "data of one and two", nil, tyData(0, v), tyData(0, u, u))
	wantNeitherUnified(t, "data of none and one", nil, tyData(0), tyData(0, u))
	wantNeitherUnified(t, "data of three and two", nil, tyData(4, v, v, v), tyData(4, u, u))
	wantNeitherUnified(t, "ref and data of one", nil, inRef(v), tyData(0, u))
	wantNeitherUnified(t, "unit and data", nil, tyUnit, tyData(0))
	wantUnified(t, nil, tyData(4, v, v, v), tyData(4, u, u, u), bindOf(0, u))
}

func TestUnifyGoesFromTheFirstArgOn(t *testing.T) {
	v := func(n int) impl.Ty { return tyVar(n) }
	wantUnified(t, nil, tyData(0, v(0), v(1), v(2)), tyData(0, tyInt, tyText, tyUnit), bindOf(0, tyInt), bindOf(1, tyText), bindOf(2, tyUnit))
	wantUnified(t, nil, tyData(0, v(2), v(1), v(0)), tyData(0, tyInt, tyText, tyUnit), bindOf(2, tyInt), bindOf(1, tyText), bindOf(0, tyUnit))
	wantUnified(t, nil, twice(v(0)), tyOf(impl.TyPair, tyInt, tyInt), bindOf(0, tyInt))
	wantNeitherUnified(t, "twice", nil, twice(v(0)), tyOf(impl.TyPair, tyInt, tyText))
	wantUnified(t, nil, twice(v(0)), tyOf(impl.TyPair, v(1), tyInt), bindOf(0, v(1)), bindOf(1, tyInt))
	wantUnified(t, nil, twice(v(0)), tyOf(impl.TyPair, tyInt, v(1)), bindOf(0, tyInt), bindOf(1, tyInt))
	wantUnified(t, nil, tyOf(impl.TyPair, v(0), v(1)), tyOf(impl.TyPair, v(1), v(0)), bindOf(0, v(1)))
	wantUnified(t, nil, tyOf(impl.TyPair, v(0), v(1)), tyOf(impl.TyPair, inRef(v(1)), tyInt), bindOf(0, inRef(v(1))), bindOf(1, tyInt))
	wantUnified(t, nil, tyOf(impl.TyPair, v(1), v(0)), tyOf(impl.TyPair, tyInt, inRef(v(1))), bindOf(1, tyInt), bindOf(0, inRef(tyInt)))
	wantUnified(t, nil, tyData(1, v(0), v(1), v(2)), tyData(1, v(1), v(2), v(0)), bindOf(0, v(1)), bindOf(1, v(2)))
	wantUnified(t, nil, tyOf(impl.TyFun, inRef(v(0)), twice(v(1))), tyOf(impl.TyFun, v(2), tyOf(impl.TyPair, v(2), v(3))),
		bindOf(2, inRef(v(0))), bindOf(1, inRef(v(0))), bindOf(3, inRef(v(0))))
	wantUnified(t, []impl.Bind{bindOf(9, twice(v(0)))}, v(9), tyOf(impl.TyPair, v(3), tyInt), bindOf(0, v(3)), bindOf(3, tyInt))
}

// TestUnifyByMaxBinds: how many binds there are then is no reason to refuse; only list must be BindsOk.
func TestUnifyByMaxBinds(t *testing.T) {
	for _, list := range [][]impl.Bind{bindsTo(impl.MaxBinds, tyInt), stairs(impl.MaxBinds, plain)} {
		last := tyVar(impl.MaxBinds)
		wantUnified(t, list, tyVar(0), tyVar(1))
		wantUnified(t, list, last, last)
		wantUnified(t, list, tyText, tyText)
		wantUnified(t, list, tyVar(1000), tyText, bindOf(1000, tyText))
		wantUnified(t, list, tyText, tyVar(1000), bindOf(1000, tyText))
		wantUnified(t, list, tyData(0, tyVar(1000), tyVar(1001), tyVar(1000)), tyData(0, tyText, tyVar(1002), tyVar(1002)),
			bindOf(1000, tyText), bindOf(1001, tyVar(1002)), bindOf(1002, tyText))
		wantNeitherUnified(t, "unlike", list, tyText, tyInt)
		wantNeitherUnified(t, "within itself", list, tyVar(1000), inRef(tyVar(1000)))
		wantNeitherUnified(t, "then unlike", list, twice(tyVar(1000)), tyOf(impl.TyPair, tyInt, tyText))
	}
	wantUnified(t, stairs(impl.MaxBinds, plain), tyVar(0), tyInt, bindOf(impl.MaxBinds, tyInt))
	wantUnified(t, bindsTo(impl.MaxBinds-1, tyInt), tyVar(1000), tyVar(0), bindOf(1000, tyInt))
	over, ok := impl.Unify(bindsTo(impl.MaxBinds, tyInt), tyVar(1000), tyInt)
	if !ok || impl.BindsOk(over) {
		t.Error("binds above MaxBinds:", ok, impl.BindsOk(over))
	}
	wantNotUnified(t, "by binds above MaxBinds", over, tyInt, tyInt)
	wantNotUnified(t, "too deep behind MaxBinds", bindsTo(impl.MaxBinds, refs(impl.MaxDepth, tyInt)), tyVar(1000), inRef(tyVar(0)))
	deep := tyOf(impl.TyPair, refs(impl.MaxDepth-1, tyInt), tyVar(1001))
	wantNeitherUnified(t, "the whole too deep behind MaxBinds", bindsTo(impl.MaxBinds, tyInt), tyOf(impl.TyPair, tyVar(1000), inRef(tyVar(1000))), deep)
}

// TestUnifyOfWhatResolvesToNoType: it can't be done, though a, b and all binds are types, not even where both are the same.
func TestUnifyOfWhatResolvesToNoType(t *testing.T) {
	for _, c := range []struct {
		name string
		ty   impl.Ty
		fits impl.Ty
	}{
		{"too deep", refs(impl.MaxDepth, tyInt), refs(impl.MaxDepth-1, tyInt)},
		{"too large", evenTree(impl.MaxSize), evenTree(impl.MaxSize - 1)},
	} {
		list := []impl.Bind{bindOf(50, tyVar(51)), bindOf(51, c.ty)}
		wantNotUnified(t, c.name, list, inRef(tyVar(50)), inRef(tyVar(50)))
		wantNeitherUnified(t, c.name, list, inRef(tyVar(50)), tyVar(60))
		wantNeitherUnified(t, c.name, list, inRef(tyVar(50)), inRef(tyVar(60)))
		wantNeitherUnified(t, c.name, list, inRef(tyVar(50)), inRef(c.fits))
		wantUnified(t, list, tyVar(50), tyVar(60), bindOf(60, c.ty))
		wantUnified(t, list, tyVar(60), tyVar(50), bindOf(60, c.ty))
		wantUnified(t, list, tyVar(50), c.ty)
		list[1].Ty = c.fits
		wantUnified(t, list, inRef(tyVar(50)), inRef(tyVar(50)))
		wantUnified(t, list, inRef(tyVar(50)), tyVar(60), bindOf(60, inRef(c.fits)))
		wantUnified(t, list, inRef(tyVar(60)), inRef(tyVar(50)), bindOf(60, c.fits))
	}
}

// TestUnifyOfPartsThatGrow: what an earlier Arg binds makes a later one too deep by one, or just not.
func TestUnifyOfPartsThatGrow(t *testing.T) {
	for depth := 1; depth < impl.MaxDepth; depth++ {
		put := refs(depth, tyInt)
		for steps := 1; steps < impl.MaxDepth; steps++ {
			a := tyOf(impl.TyPair, tyVar(0), refs(steps, tyVar(0)))
			b := tyOf(impl.TyPair, put, tyVar(1))
			if grown := refs(steps, put); depth+steps <= impl.MaxDepth {
				wantUnified(t, nil, a, b, bindOf(0, put), bindOf(1, grown))
				wantUnified(t, nil, b, a, bindOf(0, put), bindOf(1, grown))
			} else {
				wantNeitherUnified(t, fmt.Sprint("depth ", depth, " and ", steps), nil, a, b)
			}
		}
	}
}

// TestUnifyWhereTheWholeIsNoType: each part is a type when it is made alike, and a is too deep or too large by one then.
func TestUnifyWhereTheWholeIsNoType(t *testing.T) {
	deep := func(depth int) (impl.Ty, impl.Ty) {
		return tyOf(impl.TyPair, tyVar(0), inRef(tyVar(0))), tyOf(impl.TyPair, refs(depth, tyInt), tyVar(1))
	}
	a, b := deep(impl.MaxDepth - 2)
	wantUnified(t, nil, a, b, bindOf(0, refs(impl.MaxDepth-2, tyInt)), bindOf(1, refs(impl.MaxDepth-1, tyInt)))
	a, b = deep(impl.MaxDepth - 1)
	wantNeitherUnified(t, "too deep", nil, a, b)

	large := evenTree(19)
	full := tyData(0, tyVar(5), tyVar(5), tyInt)
	b = tyOf(impl.TyPair, large, tyVar(6))
	wantUnified(t, nil, tyOf(impl.TyPair, tyVar(5), full), b, bindOf(5, large), bindOf(6, tyData(0, large, large, tyInt)))
	full.Args[2] = inRef(tyInt)
	wantNeitherUnified(t, "too large", nil, tyOf(impl.TyPair, tyVar(5), full), b)
}

func TestUnifyOfWrongArguments(t *testing.T) {
	for name, list := range badBinds() {
		wantNotUnified(t, name, list, tyInt, tyInt)
		wantNotUnified(t, name, list, tyVar(77), tyVar(77))
		wantNotUnified(t, name, list, tyVar(77), tyInt)
		wantNotUnified(t, name, list, tyVar(0), tyVar(1))
	}
	some := []impl.Bind{bindOf(0, tyInt), bindOf(3, tyVar(9))}
	for _, c := range noTypes() {
		for _, list := range [][]impl.Bind{nil, some} {
			wantNotUnified(t, c.name, list, c.ty, c.ty)
			wantNeitherUnified(t, c.name, list, c.ty, tyVar(77))
			wantNeitherUnified(t, c.name, list, c.ty, tyInt)
		}
		wantNotUnified(t, c.name, append(some[:2:2], bindOf(4, c.ty)), tyInt, tyInt)
		wantNotUnified(t, c.name, append(some[:2:2], bindOf(4, c.ty)), tyVar(4), tyVar(4))
	}
}

func TestManyUnifiedAgainstTheWords(t *testing.T) {
	w := &walk{state: 43}
	count := [2]int{}
	for range 12000 {
		list := w.someBindsOk(w.below(5), 6, 9)
		a, b := w.someOk(9), w.someOk(9)
		if w.below(3) > 0 {
			b = w.blurred(a, 9)
		}
		if want, ok := rawUnify(list, a, b); ok {
			wantUnified(t, list, a, b, want[len(list):]...)
			count[1]++
		} else {
			wantNotUnified(t, rawText(a)+" and "+rawText(b)+" by "+sayBinds(list), list, a, b)
			count[0]++
		}
	}
	if count[0] < 500 || count[1] < 500 {
		t.Errorf("the test's own types: %v", count)
	}
}

// blurred is t with variables for some of its parts.
func (w *walk) blurred(t impl.Ty, vars int) impl.Ty {
	if w.below(6) == 0 {
		return tyVar(w.below(vars))
	}
	got := impl.Ty{Kind: t.Kind, N: t.N}
	for _, arg := range t.Args {
		got.Args = append(got.Args, w.blurred(arg, vars))
	}
	return got
}

// hidden is t with some of those parts that list has as the variables for which they stand there.
func (w *walk) hidden(t impl.Ty, list []impl.Ty) impl.Ty {
	for n, part := range list {
		if rawSame(part, t) && w.below(3) > 0 {
			return tyVar(n)
		}
	}
	got := impl.Ty{Kind: t.Kind, N: t.N}
	for _, arg := range t.Args {
		got.Args = append(got.Args, w.hidden(arg, list))
	}
	return got
}

// TestWhatMakesBothTheSame: a and b are the same once list is put for their variables; so they are unified
// without binds, and what they resolve to becomes by list just what they became.
func TestWhatMakesBothTheSame(t *testing.T) {
	w := &walk{state: 44}
	// What is put names no variable that is a place in list, so that putting it once more changes nothing.
	beyond := []impl.Ty{tyVar(20), tyVar(21), tyVar(22), tyVar(23)}
	done, bound := 0, 0
	for range 12000 {
		var list []impl.Ty
		for range 1 + w.below(8) {
			part, _ := impl.TySubst(w.someSmall(6, 4), beyond)
			list = append(list, part)
		}
		same, ok := impl.TySubst(w.someOk(len(list)), list)
		if !ok {
			continue
		}
		a, b := w.hidden(same, list), w.hidden(same, list)
		wantPut(t, a, list, same)
		wantPut(t, b, list, same)
		binds, ok := impl.Unify(nil, a, b)
		if !ok {
			t.Fatalf("%s and %s are not unified, but may be %s", rawText(a), rawText(b), rawText(same))
		}
		wantPromise(t, nil, binds, a, b)
		most, _ := impl.Resolve(binds, a)
		wantPut(t, most, list, same)
		done++
		bound += len(binds)
	}
	if done < 2000 || bound < 2000 {
		t.Errorf("the test's own types: %d done, %d bound", done, bound)
	}
}

// wantPut asks for t with list put for its variables.
func wantPut(t *testing.T, ty impl.Ty, list []impl.Ty, want impl.Ty) {
	t.Helper()
	if got, ok := impl.TySubst(ty, list); !ok || !rawSame(got, want) {
		t.Fatalf("%s becomes %s, not %s", rawText(ty), rawText(got), rawText(want))
	}
}

// spareBind fills the room behind lists of binds: neither its Var nor its Ty may be.
var spareBind = impl.Bind{Var: -spareWord, Ty: spareTy}

func roomyBinds(list []impl.Bind) []impl.Bind {
	roomy := withSpare(list, spareBind)
	for i := range roomy {
		roomy[i].Ty = roomyTy(roomy[i].Ty)
	}
	return roomy
}

func wantRoomyBinds(t *testing.T, what string, list []impl.Bind, was []impl.Bind) {
	t.Helper()
	if !sameBinds(list, was) {
		t.Errorf("%s: the binds were changed", what)
	}
	for _, spare := range list[len(list):cap(list)] {
		if spare.Var != spareBind.Var || !isSpareTy(spare.Ty) {
			t.Errorf("%s: the room behind the binds was written", what)
			return
		}
	}
	for _, bind := range list {
		wantSpareTys(t, what, bind.Ty.Args)
	}
}

// tysOf are the types of binds, as Args of one tree, for claim.
func tysOf(list []impl.Bind) impl.Ty {
	var t impl.Ty
	for _, bind := range list {
		t.Args = append(t.Args, bind.Ty)
	}
	return t
}

// scribbleBinds writes over all that can be reached by list.
func scribbleBinds(list []impl.Bind) {
	for _, bind := range list {
		scribbleTy(bind.Ty)
	}
	whole := list[:cap(list)]
	for i := range whole {
		whole[i] = bindOf(^whole[i].Var, tyOf(^whole[i].Ty.Kind))
	}
}

type unifyCase struct {
	list []impl.Bind
	a    impl.Ty
	b    impl.Ty
}

// unifyCases are of all ways that Unify can go, done and not done.
func unifyCases() []unifyCase {
	pair, part := tyOf(impl.TyPair, tyVar(0), tyVar(1)), tyOf(impl.TyFun, tyVar(2), tyInt)
	some := []impl.Bind{bindOf(5, tyOf(impl.TyPair, tyVar(3), tyVar(4))), bindOf(3, part), bindOf(4, part)}
	cases := []unifyCase{
		{nil, pair, pair},
		{nil, tyVar(0), part},
		{nil, part, tyVar(0)},
		{nil, pair, twice(part)},
		{nil, twice(pair), twice(tyVar(7))},
		{some, tyVar(5), pair},
		{some, pair, tyVar(5)},
		{some, tyVar(5), tyVar(5)},
		{some, tyVar(3), tyVar(4)},
		{some, tyVar(9), tyVar(5)},
		{some, tyInt, tyText},
		{some, tyVar(2), tyVar(5)},
		{some, twice(tyVar(0)), tyOf(impl.TyPair, tyInt, tyText)},
		{some, twice(tyVar(0)), tyOf(impl.TyPair, tyVar(-1), tyText)},
		{some[1:], tyVar(5), part},
		{append(some[:3:3], bindOf(5, tyInt)), tyVar(5), part},
		{stairs(9, inRef), tyVar(0), tyVar(1)},
		{stairs(9, inRef), tyVar(0), tyVar(50)},
		{stairs(impl.MaxBinds, plain), pair, twice(part)},
		{bindsTo(impl.MaxBinds, part), tyVar(1000), tyVar(0)},
		{bindsTo(impl.MaxBinds+1, part), tyVar(1000), tyVar(0)},
	}
	w := &walk{state: 45}
	for range 300 {
		a := w.someOk(9)
		cases = append(cases, unifyCase{w.someBindsOk(w.below(5), 6, 9), a, w.blurred(a, 9)})
	}
	return cases
}

func TestUnifyHasMemoryOfItsOwn(t *testing.T) {
	for i, c := range unifyCases() {
		what := fmt.Sprint("case ", i)
		list, a, b := roomyBinds(c.list), roomyTy(c.a), roomyTy(c.b)
		plainGot, plainOk := impl.Unify(c.list, c.a, c.b)
		got, ok := impl.Unify(list, a, b)
		if ok != plainOk || !sameBinds(got, plainGot) {
			t.Errorf("%s: what lies behind a list was read", what)
		}
		wantOwnTy(t, what, tysOf(got), tysOf(list), a, b)
		if len(got) > 0 && len(list) > 0 && &got[0] == &list[0] {
			t.Errorf("%s: the argument is handed out", what)
		}
		scribbleBinds(got)
		wantRoomyBinds(t, what, list, c.list)
		wantRoomyTys(t, what, []impl.Ty{a}, []impl.Ty{c.a})
		wantRoomyTys(t, what, []impl.Ty{b}, []impl.Ty{c.b})
		if again, _ := impl.Unify(list, a, b); !sameBinds(again, plainGot) {
			t.Errorf("%s: an answer was kept", what)
		}
	}
}

func TestResolveHasMemoryOfItsOwn(t *testing.T) {
	for i, c := range unifyCases() {
		what := fmt.Sprint("case ", i)
		list, ty := roomyBinds(c.list), roomyTy(c.a)
		plainGot, plainOk := impl.Resolve(c.list, c.a)
		got, ok := impl.Resolve(list, ty)
		if ok != plainOk || !rawSame(got, plainGot) || impl.BindsOk(list) != impl.BindsOk(c.list) {
			t.Errorf("%s: what lies behind a list was read", what)
		}
		wantOwnTy(t, what, got, tysOf(list), ty)
		scribbleTy(got)
		wantRoomyBinds(t, what, list, c.list)
		wantRoomyTys(t, what, []impl.Ty{ty}, []impl.Ty{c.a})
		if again, _ := impl.Resolve(list, ty); !rawSame(again, plainGot) {
			t.Errorf("%s: an answer was kept", what)
		}
	}
}

// TestBindsThatShare: parts that the arguments share, also with each other, the answers do not.
func TestBindsThatShare(t *testing.T) {
	part := tyOf(impl.TyPair, tyVar(5), tyInt)
	a, b := tyData(0, tyVar(0), tyVar(1), part), tyData(0, part, part, tyVar(2))
	list := []impl.Bind{bindOf(7, part), bindOf(8, part)}
	got, ok := impl.Unify(list, a, b)
	if !ok || !sameBinds(got, append(list[:2:2], bindOf(0, part), bindOf(1, part), bindOf(2, part))) {
		t.Fatal(sayBinds(got), ok)
	}
	wantOwnTy(t, "unified", tysOf(got), part)
	ty, ok := impl.Resolve(list, tyData(0, tyVar(7), tyVar(8), tyVar(7)))
	if !ok || !rawSame(ty, tyData(0, part, part, part)) {
		t.Fatal(rawText(ty), ok)
	}
	wantOwnTy(t, "resolved", ty, part)
	// An answer may be the next argument, and stays as it is.
	next, ok := impl.Unify(got, tyVar(5), tyVar(6))
	if !ok || !sameBinds(next[:len(got)], got) {
		t.Fatal(sayBinds(next), ok)
	}
	scribbleBinds(next)
	if again, ok := impl.Unify(list, a, b); !ok || !sameBinds(again, got) {
		t.Error("the answer changes with the next one")
	}
}
