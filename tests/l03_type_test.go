package tests

import (
	"bytes"
	"fmt"
	"math"
	"slices"
	"strings"
	"sync"
	"testing"

	"loop.example/g00293/impl"
)

func tyOf(kind int, args ...impl.Ty) impl.Ty {
	return impl.Ty{Kind: kind, Args: args}
}

func tyVar(n int) impl.Ty {
	return impl.Ty{Kind: impl.TyVar, N: n}
}

func tyData(n int, args ...impl.Ty) impl.Ty {
	return impl.Ty{Kind: impl.TyData, N: n, Args: args}
}

var (
	tyUnit = impl.Ty{Kind: impl.TyUnit}
	tyInt  = impl.Ty{Kind: impl.TyInt}
	tyText = impl.Ty{Kind: impl.TyText}
)

// The raw functions say of any tree with an end what the document says of types, without its limits.

func rawSize(t impl.Ty) int {
	size := 1
	for _, arg := range t.Args {
		size += rawSize(arg)
	}
	return size
}

func rawDepth(t impl.Ty) int {
	depth := 0
	for _, arg := range t.Args {
		depth = max(depth, rawDepth(arg))
	}
	return depth + 1
}

func rawSame(a impl.Ty, b impl.Ty) bool {
	return a.Kind == b.Kind && a.N == b.N && slices.EqualFunc(a.Args, b.Args, rawSame)
}

func rawBytes(t impl.Ty) string {
	b := string([]byte{byte(t.Kind)})
	if t.Kind == impl.TyVar || t.Kind == impl.TyData {
		b += string(impl.PutNum(nil, t.N))
	}
	if t.Kind == impl.TyData {
		b += string(impl.PutNum(nil, len(t.Args)))
	}
	for _, arg := range t.Args {
		b += rawBytes(arg)
	}
	return b
}

func rawText(t impl.Ty) string {
	words := []string{"unit", "int", "text", "pair", "fun", "ref", fmt.Sprint("data ", t.N), fmt.Sprint("'", t.N)}
	switch t.Kind {
	case impl.TyUnit, impl.TyInt, impl.TyText, impl.TyVar:
		return words[t.Kind]
	}
	parts := []string{words[t.Kind]}
	for _, arg := range t.Args {
		parts = append(parts, rawText(arg))
	}
	return "(" + strings.Join(parts, " ") + ")"
}

func rawBoxed(t impl.Ty) bool {
	return t.Kind != impl.TyUnit && t.Kind != impl.TyInt && t.Kind != impl.TyVar
}

func rawVars(t impl.Ty) []int {
	var seen [impl.MaxVar]bool
	markVars(t, &seen)
	var vars []int
	for n, there := range seen {
		if there {
			vars = append(vars, n)
		}
	}
	return vars
}

func markVars(t impl.Ty, seen *[impl.MaxVar]bool) {
	if t.Kind == impl.TyVar {
		seen[t.N] = true
	}
	for _, arg := range t.Args {
		markVars(arg, seen)
	}
}

func rawSubst(t impl.Ty, list []impl.Ty) impl.Ty {
	if t.Kind == impl.TyVar && t.N < len(list) {
		return list[t.N]
	}
	got := impl.Ty{Kind: t.Kind, N: t.N}
	for _, arg := range t.Args {
		got.Args = append(got.Args, rawSubst(arg, list))
	}
	return got
}

func isZeroTy(t impl.Ty) bool {
	return rawSame(t, impl.Ty{})
}

// spareTy fills the room behind lists of types, so that a write there shows, and a read, too: it is no type.
var spareTy = impl.Ty{Kind: 77, N: spareWord}

func isSpareTy(t impl.Ty) bool {
	return t.Kind == spareTy.Kind && t.N == spareTy.N && t.Args == nil
}

// roomyTy answers t in memory of its own, with filled room behind each of its lists.
func roomyTy(t impl.Ty) impl.Ty {
	return impl.Ty{Kind: t.Kind, N: t.N, Args: roomyTys(t.Args)}
}

func roomyTys(list []impl.Ty) []impl.Ty {
	roomy := withSpare(list, spareTy)
	for i := range roomy {
		roomy[i] = roomyTy(roomy[i])
	}
	return roomy
}

func wantRoomyTys(t *testing.T, what string, list []impl.Ty, was []impl.Ty) {
	t.Helper()
	if !slices.EqualFunc(list, was, rawSame) {
		t.Errorf("%s: the argument was changed", what)
	}
	wantSpareTys(t, what, list)
}

func wantSpareTys(t *testing.T, what string, list []impl.Ty) {
	t.Helper()
	for _, spare := range list[len(list):cap(list)] {
		if !isSpareTy(spare) {
			t.Errorf("%s: the room behind a list was written", what)
			return
		}
	}
	for _, part := range list {
		wantSpareTys(t, what, part.Args)
	}
}

// claim notes each place that the lists of t have, the room behind them, too; false, if one of them was noted before.
func claim(t impl.Ty, places map[*impl.Ty]bool) bool {
	return claimList(t.Args, places)
}

func claimList(list []impl.Ty, places map[*impl.Ty]bool) bool {
	whole := list[:cap(list)]
	for i := range whole {
		if places[&whole[i]] {
			return false
		}
		places[&whole[i]] = true
	}
	for _, part := range list {
		if !claim(part, places) {
			return false
		}
	}
	return true
}

func wantOwnTy(t *testing.T, what string, got impl.Ty, args ...impl.Ty) {
	t.Helper()
	places := map[*impl.Ty]bool{}
	for _, arg := range args {
		claim(arg, places)
	}
	if !claim(got, places) {
		t.Errorf("%s: lists that share memory", what)
	}
}

// scribbleTy writes over all that can be reached by t.
func scribbleTy(t impl.Ty) {
	for _, part := range t.Args {
		scribbleTy(part)
	}
	whole := t.Args[:cap(t.Args)]
	for i := range whole {
		whole[i] = impl.Ty{Kind: ^whole[i].Kind, N: ^whole[i].N}
	}
}

// chain answers a type of that depth, which goes down by wrap to the leaf.
func chain(depth int, leaf impl.Ty, wrap func(impl.Ty) impl.Ty) impl.Ty {
	for range depth - 1 {
		leaf = wrap(leaf)
	}
	return leaf
}

type wrapCase struct {
	name string
	wrap func(impl.Ty) impl.Ty
}

// wraps are all ways for a part to stand in a type.
func wraps() []wrapCase {
	return []wrapCase{
		{"ref", func(t impl.Ty) impl.Ty { return tyOf(impl.TyRef, t) }},
		{"pair, first", func(t impl.Ty) impl.Ty { return tyOf(impl.TyPair, t, tyInt) }},
		{"pair, second", func(t impl.Ty) impl.Ty { return tyOf(impl.TyPair, tyVar(9), t) }},
		{"fun, first", func(t impl.Ty) impl.Ty { return tyOf(impl.TyFun, t, tyUnit) }},
		{"fun, second", func(t impl.Ty) impl.Ty { return tyOf(impl.TyFun, tyText, t) }},
		{"data of one", func(t impl.Ty) impl.Ty { return tyData(3, t) }},
		{"data of two, second", func(t impl.Ty) impl.Ty { return tyData(0, tyInt, t) }},
		{"data of three, first", func(t impl.Ty) impl.Ty { return tyData(19, t, tyInt, tyVar(0)) }},
		{"data of three, second", func(t impl.Ty) impl.Ty { return tyData(7, tyInt, t, tyData(2)) }},
		{"data of three, third", func(t impl.Ty) impl.Ty { return tyData(1, tyUnit, tyText, t) }},
	}
}

func leaves() []impl.Ty {
	return []impl.Ty{
		tyUnit, tyInt, tyText,
		tyData(0), tyData(1), tyData(10), tyData(impl.MaxData - 2), tyData(impl.MaxData - 1),
		tyVar(0), tyVar(1), tyVar(10), tyVar(127), tyVar(128), tyVar(16383), tyVar(16384), tyVar(impl.MaxVar - 2), tyVar(impl.MaxVar - 1),
	}
}

// evenTree has that size and as little depth as can be.
func evenTree(size int) impl.Ty {
	t := tyData(size % impl.MaxData)
	left := size - 1
	for n := impl.MaxArgs; n > 0 && left > 0; n-- {
		part := (left + n - 1) / n
		t.Args = append(t.Args, evenTree(part))
		left -= part
	}
	if size == 1 {
		return tyVar(size)
	}
	return t
}

// comb has all that is large about it in the Arg side of each part; size must be 3 k + 1.
func comb(size int, side int) impl.Ty {
	if size == 1 {
		return tyInt
	}
	t := tyData(5, tyUnit, tyText, tyVar(4))
	t.Args[side] = comb(size-3, side)
	return t
}

// bush has as many parts as there can be with that depth, so many Args each; like parts share memory.
func bush(depth int, args int) impl.Ty {
	t := tyInt
	for range depth - 1 {
		t = tyData(0, slices.Repeat([]impl.Ty{t}, args)...)
	}
	return t
}

func sampleTypes() []impl.Ty {
	types := leaves()
	for _, w := range wraps() {
		for _, leaf := range leaves() {
			types = append(types, w.wrap(leaf))
		}
		types = append(types, w.wrap(w.wrap(tyVar(2))))
	}
	for _, w := range wraps()[:2] {
		types = append(types, chain(impl.MaxDepth, tyVar(3), w.wrap))
	}
	types = append(types, evenTree(13), evenTree(40), evenTree(impl.MaxSize-1), evenTree(impl.MaxSize))
	types = append(types, tyOf(impl.TyPair, tyVar(3), tyOf(impl.TyFun, tyVar(1), tyOf(impl.TyPair, tyVar(3), tyVar(0)))))
	return types
}

type tyCase struct {
	name string
	ty   impl.Ty
}

// noTop are trees that are no types for what stands at their top.
func noTop() []tyCase {
	cases := []tyCase{
		{"kind one below the first", tyOf(-1)},
		{"kind one beyond the last", tyOf(8)},
		{"kind one beyond the last, one Arg", tyOf(8, tyInt)},
		{"kind of 256 more than int", tyOf(256 + impl.TyInt)},
		{"kind of 256 more than ref", tyOf(256+impl.TyRef, tyInt)},
		{"kind of 256 less than ref", tyOf(impl.TyRef-256, tyInt)},
		{"kind at the low end", tyOf(math.MinInt)},
		{"kind at the high end", tyOf(math.MaxInt, tyInt, tyInt)},
		{"unit, one Arg", tyOf(impl.TyUnit, tyInt)},
		{"int, one Arg", tyOf(impl.TyInt, tyInt)},
		{"text, one Arg", tyOf(impl.TyText, tyInt)},
		{"pair, no Arg", tyOf(impl.TyPair)},
		{"pair, one Arg", tyOf(impl.TyPair, tyInt)},
		{"pair, three Args", tyOf(impl.TyPair, tyInt, tyInt, tyInt)},
		{"fun, no Arg", tyOf(impl.TyFun)},
		{"fun, one Arg", tyOf(impl.TyFun, tyInt)},
		{"fun, three Args", tyOf(impl.TyFun, tyInt, tyInt, tyInt)},
		{"ref, no Arg", tyOf(impl.TyRef)},
		{"ref, two Args", tyOf(impl.TyRef, tyInt, tyInt)},
		{"data, four Args", tyData(0, tyInt, tyInt, tyInt, tyInt)},
		{"data, very many Args", tyData(0, make([]impl.Ty, 1000000)...)},
		{"pair, very many Args", tyOf(impl.TyPair, make([]impl.Ty, 1000000)...)},
		{"variable, one Arg", impl.Ty{Kind: impl.TyVar, N: 3, Args: []impl.Ty{tyInt}}},
	}
	for _, n := range []int{-1, math.MinInt, math.MaxInt} {
		for kind := impl.TyUnit; kind <= impl.TyVar; kind++ {
			cases = append(cases, tyCase{fmt.Sprint("kind ", kind, " with N ", n), withTop(kind, n)})
		}
	}
	for kind := impl.TyUnit; kind < impl.TyData; kind++ {
		cases = append(cases, tyCase{fmt.Sprint("kind ", kind, " with N 1"), withTop(kind, 1)})
	}
	for _, n := range []int{impl.MaxData, impl.MaxData + 1, impl.MaxVar - 1} {
		cases = append(cases, tyCase{fmt.Sprint("data ", n), tyData(n)}, tyCase{fmt.Sprint("data ", n, " of one"), tyData(n, tyInt)})
	}
	for _, n := range []int{impl.MaxVar, impl.MaxVar + 1, impl.MaxNum} {
		cases = append(cases, tyCase{fmt.Sprint("variable ", n), tyVar(n)})
	}
	return cases
}

// withTop has just as many Args as its kind asks for, and that N.
func withTop(kind int, n int) impl.Ty {
	counts := [impl.TyVar + 1]int{impl.TyPair: 2, impl.TyFun: 2, impl.TyRef: 1}
	return impl.Ty{Kind: kind, N: n, Args: make([]impl.Ty, counts[kind])}
}

func ring(kind int, args int) impl.Ty {
	list := make([]impl.Ty, args)
	for i := range list {
		list[i] = impl.Ty{Kind: kind, Args: list}
	}
	return list[0]
}

// tooMuch are trees that are no types for their depth or size alone.
func tooMuch() []tyCase {
	var cases []tyCase
	for _, w := range wraps() {
		for _, leaf := range []impl.Ty{tyInt, tyVar(0), tyData(4)} {
			cases = append(cases, tyCase{"one too deep: " + w.name, chain(impl.MaxDepth+1, leaf, w.wrap)})
		}
		cases = append(cases, tyCase{"far too deep: " + w.name, chain(2000, tyInt, w.wrap)})
	}
	for _, size := range []int{impl.MaxSize + 1, impl.MaxSize + 2, 2 * impl.MaxSize, 1000} {
		cases = append(cases, tyCase{fmt.Sprint("size ", size), evenTree(size)})
	}
	large := evenTree(impl.MaxSize)
	return append(cases,
		tyCase{"ref of what has MaxSize", tyOf(impl.TyRef, large)},
		tyCase{"pair of what has MaxSize, second", tyOf(impl.TyPair, tyInt, large)},
		tyCase{"pair of two of MaxSize", tyOf(impl.TyPair, large, large)},
		tyCase{"pair of halves, one too large", tyOf(impl.TyPair, evenTree(30), evenTree(30))},
		tyCase{"data of thirds, one too large", tyData(0, evenTree(20), evenTree(20), evenTree(20))},
		tyCase{"bush of twos", bush(impl.MaxDepth, 2)},
		tyCase{"bush of threes", bush(impl.MaxDepth, 3)},
		tyCase{"too deep by its last part alone", tyData(0, tyInt, tyInt, chain(impl.MaxDepth, tyInt, wraps()[0].wrap))},
	)
}

// endless have more parts than anybody can go through.
func endless() []tyCase {
	return []tyCase{
		{"very deep", chain(1000000, tyInt, wraps()[0].wrap)},
		{"bush of twos without number", bush(60, 2)},
		{"bush of threes without number", bush(60, 3)},
		{"ref of itself", ring(impl.TyRef, 1)},
		{"pair of itself", ring(impl.TyPair, 2)},
		{"fun of itself", ring(impl.TyFun, 2)},
		{"data of itself", ring(impl.TyData, 3)},
	}
}

// within puts what is no type into types, so that it is a part of each.
func within(bad impl.Ty) []impl.Ty {
	var all []impl.Ty
	for _, w := range wraps() {
		all = append(all, w.wrap(bad), tyOf(impl.TyPair, tyUnit, w.wrap(w.wrap(bad))))
	}
	return all
}

func noTypes() []tyCase {
	cases := append(noTop(), tooMuch()...)
	cases = append(cases, endless()...)
	for _, c := range noTop() {
		for i, t := range within(c.ty) {
			cases = append(cases, tyCase{fmt.Sprint(c.name, ", as a part, ", i), t})
		}
	}
	return cases
}

func TestLimitsAndKindsOfTypes(t *testing.T) {
	limits := []int{impl.MaxDepth, impl.MaxSize, impl.MaxVar, impl.MaxData, impl.MaxArgs}
	if !slices.Equal(limits, []int{10, 60, 100000, 20, 3}) {
		t.Error(limits)
	}
	kinds := []int{impl.TyUnit, impl.TyInt, impl.TyText, impl.TyPair, impl.TyFun, impl.TyRef, impl.TyData, impl.TyVar}
	if !slices.Equal(kinds, []int{0, 1, 2, 3, 4, 5, 6, 7}) {
		t.Error(kinds)
	}
}

type knownCase struct {
	ty    impl.Ty
	size  int
	boxed bool
	vars  []int
	bytes string
	text  string
}

func knownTypes() []knownCase {
	return []knownCase{
		{tyUnit, 1, false, nil, "\x00", "unit"},
		{tyInt, 1, false, nil, "\x01", "int"},
		{tyText, 1, true, nil, "\x02", "text"},
		{tyOf(impl.TyPair, tyInt, tyText), 3, true, nil, "\x03\x01\x02", "(pair int text)"},
		{tyOf(impl.TyFun, tyUnit, tyInt), 3, true, nil, "\x04\x00\x01", "(fun unit int)"},
		{tyOf(impl.TyRef, tyUnit), 2, true, nil, "\x05\x00", "(ref unit)"},
		{tyData(0), 1, true, nil, "\x06\x00\x00", "(data 0)"},
		{tyData(19), 1, true, nil, "\x06\x13\x00", "(data 19)"},
		{tyData(10, tyInt), 2, true, nil, "\x06\x0a\x01\x01", "(data 10 int)"},
		{tyData(7, tyInt, tyUnit), 3, true, nil, "\x06\x07\x02\x01\x00", "(data 7 int unit)"},
		{tyData(1, tyInt, tyVar(2), tyText), 4, true, []int{2}, "\x06\x01\x03\x01\x07\x02\x02", "(data 1 int '2 text)"},
		{tyVar(0), 1, false, []int{0}, "\x07\x00", "'0"},
		{tyVar(127), 1, false, []int{127}, "\x07\x7f", "'127"},
		{tyVar(128), 1, false, []int{128}, "\x07\x80\x01", "'128"},
		{tyVar(99999), 1, false, []int{99999}, "\x07\x9f\x8d\x06", "'99999"},
		{tyOf(impl.TyFun, tyOf(impl.TyPair, tyVar(12), tyVar(3)), tyOf(impl.TyRef, tyVar(12))), 6, true, []int{3, 12}, "\x04\x03\x07\x0c\x07\x03\x05\x07\x0c", "(fun (pair '12 '3) (ref '12))"},
	}
}

func TestKnownTypes(t *testing.T) {
	for _, c := range knownTypes() {
		if !impl.TyOk(c.ty) || impl.TySize(c.ty) != c.size || impl.TyBoxed(c.ty) != c.boxed || !slices.Equal(impl.TyVars(c.ty), c.vars) {
			t.Errorf("%s: ok %v, size %d, boxed %v, vars %v", c.text, impl.TyOk(c.ty), impl.TySize(c.ty), impl.TyBoxed(c.ty), impl.TyVars(c.ty))
		}
		if b, s := impl.TyBytes(c.ty), impl.TySay(c.ty); string(b) != c.bytes || string(s) != c.text {
			t.Errorf("%s: bytes %q, text %q", c.text, b, s)
		}
	}
}

func TestTyOkTakesTypes(t *testing.T) {
	for _, ty := range sampleTypes() {
		if !impl.TyOk(ty) {
			t.Errorf("%s: refused", rawText(ty))
		}
	}
	for kind := impl.TyUnit; kind <= impl.TyVar; kind++ {
		if !impl.TyOk(withTop(kind, 0)) {
			t.Errorf("kind %d refused", kind)
		}
	}
	for args := 0; args <= impl.MaxArgs; args++ {
		if !impl.TyOk(tyData(3, make([]impl.Ty, args)...)) {
			t.Errorf("data of %d refused", args)
		}
	}
}

func TestTyOkRefusesAllElse(t *testing.T) {
	for _, c := range noTypes() {
		if impl.TyOk(c.ty) {
			t.Errorf("%s: taken", c.name)
		}
	}
}

func TestDepthOfTypes(t *testing.T) {
	for _, w := range wraps() {
		for depth := 1; depth <= impl.MaxDepth+3; depth++ {
			ty := chain(depth, tyInt, w.wrap)
			want := 0
			if depth <= impl.MaxDepth {
				want = rawSize(ty)
			}
			if impl.TyOk(ty) != (want > 0) || impl.TySize(ty) != want {
				t.Errorf("%s, depth %d: ok %v, size %d", w.name, depth, impl.TyOk(ty), impl.TySize(ty))
			}
		}
	}
}

func TestSizeOfTypes(t *testing.T) {
	for size := 1; size <= impl.MaxSize+20; size++ {
		wantSize(t, evenTree(size), size)
		if size >= 3 {
			wantSize(t, tyOf(impl.TyPair, evenTree(size-2), tyInt), size)
			wantSize(t, tyOf(impl.TyFun, tyInt, evenTree(size-2)), size)
			wantSize(t, tyData(2, evenTree((size-1)/2), evenTree(size-1-(size-1)/2)), size)
		}
	}
	for side := range 3 {
		wantSize(t, comb(25, side), 25)
		wantSize(t, comb(28, side), 28)
	}
}

// wantSize is of trees that are types but for their size.
func wantSize(t *testing.T, ty impl.Ty, size int) {
	t.Helper()
	if rawSize(ty) != size || rawDepth(ty) > impl.MaxDepth {
		t.Fatalf("the test's own tree: size %d, depth %d", rawSize(ty), rawDepth(ty))
	}
	if size > impl.MaxSize {
		size = 0
	}
	if impl.TySize(ty) != size || impl.TyOk(ty) != (size > 0) {
		t.Errorf("size %d: %d, ok %v", rawSize(ty), impl.TySize(ty), impl.TyOk(ty))
	}
}

func TestNothingIsSaidOfNoType(t *testing.T) {
	for _, c := range noTypes() {
		if size := impl.TySize(c.ty); size != 0 {
			t.Errorf("%s: size %d", c.name, size)
		}
		if impl.TyEq(c.ty, c.ty) || impl.TyEq(c.ty, tyInt) || impl.TyEq(tyInt, c.ty) || impl.TyBoxed(c.ty) {
			t.Errorf("%s: the same as itself or another, or boxed", c.name)
		}
		if vars, b, s := impl.TyVars(c.ty), impl.TyBytes(c.ty), impl.TySay(c.ty); len(vars)+len(b)+len(s) != 0 {
			t.Errorf("%s: vars %v, bytes %q, text %q", c.name, vars, b, s)
		}
		for _, list := range [][]impl.Ty{nil, {tyInt}, {tyVar(1), tyVar(0)}} {
			wantNoSubst(t, c.name, c.ty, list)
		}
	}
}

func TestBoxedKinds(t *testing.T) {
	boxed := [impl.TyVar + 1]bool{impl.TyText: true, impl.TyPair: true, impl.TyFun: true, impl.TyRef: true, impl.TyData: true}
	for _, ty := range sampleTypes() {
		if impl.TyBoxed(ty) != boxed[ty.Kind] {
			t.Errorf("%s: boxed %v", rawText(ty), impl.TyBoxed(ty))
		}
	}
}

func TestVariablesOfTypes(t *testing.T) {
	many := tyUnit
	for i := range 8 {
		many = tyData(i, tyVar(impl.MaxVar-1-i%3), many, tyOf(impl.TyPair, tyVar(i*i%5), tyVar(1000-i)))
	}
	types := append(sampleTypes(), many,
		tyOf(impl.TyPair, tyVar(5), tyVar(1)),
		tyOf(impl.TyPair, tyVar(1), tyVar(5)),
		tyOf(impl.TyPair, tyVar(5), tyVar(5)),
		tyData(2, tyVar(9), tyData(9, tyVar(0), tyVar(9), tyVar(3)), tyVar(0)),
		tyOf(impl.TyFun, tyVar(0), tyOf(impl.TyFun, tyVar(99999), tyVar(0))),
	)
	for _, ty := range types {
		if vars := impl.TyVars(ty); !slices.Equal(vars, rawVars(ty)) {
			t.Errorf("%s: %v", rawText(ty), vars)
		}
	}
}

// otherInOnePlace answers types that differ from ty in one place: another kind, N, Arg, or one Arg more or fewer.
func otherInOnePlace(ty impl.Ty) []impl.Ty {
	var others []impl.Ty
	for _, leaf := range append(leaves(), tyOf(impl.TyRef, tyInt), tyVar(3), tyVar(4)) {
		if !rawSame(leaf, ty) {
			others = append(others, leaf)
		}
	}
	for _, kind := range []int{impl.TyPair, impl.TyFun, impl.TyRef, impl.TyData} {
		if kind != ty.Kind {
			others = append(others, impl.Ty{Kind: kind, Args: ty.Args})
		}
	}
	for _, n := range []int{ty.N - 1, ty.N + 1, ty.N + 10} {
		others = append(others, impl.Ty{Kind: ty.Kind, N: n, Args: ty.Args})
	}
	if ty.Kind == impl.TyData {
		others = append(others, tyData(ty.N, append(slices.Clone(ty.Args), tyUnit)...), tyData(ty.N, ty.Args[:max(0, len(ty.Args)-1)]...))
	}
	if len(ty.Args) > 1 {
		turned := slices.Clone(ty.Args)
		slices.Reverse(turned)
		others = append(others, impl.Ty{Kind: ty.Kind, N: ty.N, Args: turned})
	}
	for i, arg := range ty.Args {
		for _, other := range otherInOnePlace(arg) {
			changed := impl.Ty{Kind: ty.Kind, N: ty.N, Args: slices.Clone(ty.Args)}
			changed.Args[i] = other
			others = append(others, changed)
		}
	}
	return others
}

func TestTypesThatDifferInOnePlace(t *testing.T) {
	for _, ty := range sampleTypes() {
		b, s := impl.TyBytes(ty), impl.TySay(ty)
		for _, other := range otherInOnePlace(ty) {
			if rawSame(ty, other) {
				continue
			}
			if impl.TyEq(ty, other) || impl.TyEq(other, ty) {
				t.Fatalf("%s is %v", s, other)
			}
			if impl.TyOk(other) && (bytes.Equal(impl.TyBytes(other), b) || bytes.Equal(impl.TySay(other), s)) {
				t.Fatalf("%s has bytes or text of %v", s, other)
			}
		}
	}
}

func TestTypesThatAreTheSame(t *testing.T) {
	for _, ty := range sampleTypes() {
		twin := roomyTy(ty)
		if !impl.TyEq(ty, ty) || !impl.TyEq(ty, twin) || !impl.TyEq(twin, ty) {
			t.Errorf("%s is not itself", rawText(ty))
		}
		if !bytes.Equal(impl.TyBytes(twin), impl.TyBytes(ty)) || !bytes.Equal(impl.TySay(twin), impl.TySay(ty)) {
			t.Errorf("%s has other bytes or another text than itself", rawText(ty))
		}
	}
	if !impl.TyEq(impl.Ty{Args: []impl.Ty{}}, impl.Ty{}) {
		t.Error("an empty list is not nil")
	}
}

func TestBytesAndTextsOfTypes(t *testing.T) {
	for _, ty := range sampleTypes() {
		if b := impl.TyBytes(ty); string(b) != rawBytes(ty) {
			t.Errorf("%s: bytes %q", rawText(ty), b)
		}
		if s := impl.TySay(ty); string(s) != rawText(ty) {
			t.Errorf("%s: text %q", rawText(ty), s)
		}
	}
}

func wantRead(t *testing.T, b []byte, at int, ty impl.Ty, next int) {
	t.Helper()
	if got, end := impl.TyRead(b, at); !rawSame(got, ty) || end != next {
		t.Errorf("TyRead(%q, %d) = %v, %d", b, at, got, end)
	}
}

func wantNoRead(t *testing.T, b []byte, at int) {
	t.Helper()
	if got, end := impl.TyRead(b, at); !isZeroTy(got) || end != -1 {
		t.Errorf("TyRead of %d bytes at %d = %v, %d", len(b), at, got, end)
	}
}

func TestTypesComeBack(t *testing.T) {
	for _, ty := range sampleTypes() {
		b := impl.TyBytes(ty)
		for _, head := range []string{"", "\x00", "\x05\x05", "\x80\xff\x07"} {
			for _, tail := range []string{"", "\x00", "\x07\x01", "\xff\xff"} {
				wantRead(t, []byte(head+string(b)+tail), len(head), ty, len(head)+len(b))
			}
		}
	}
}

func TestTyReadGoesOnFromTypeToType(t *testing.T) {
	var all []byte
	for _, ty := range sampleTypes() {
		all = append(all, impl.TyBytes(ty)...)
	}
	at := 0
	for _, ty := range sampleTypes() {
		next := at + len(rawBytes(ty))
		wantRead(t, all, at, ty, next)
		at = next
	}
	wantNoRead(t, all, at)
}

func TestTyReadOfBytesThatEndTooEarly(t *testing.T) {
	for _, ty := range sampleTypes() {
		b := []byte(rawBytes(ty))
		for end := range b {
			// The rest of the bytes lies behind the length, where it may not be read.
			wantNoRead(t, b[:end], 0)
			wantNoRead(t, append([]byte{5, 5}, b[:end]...), 2)
		}
	}
}

func TestTyReadAtPlacesOutside(t *testing.T) {
	for _, b := range [][]byte{nil, {}, {1}, {5, 1}, {1, 1, 1, 1}, []byte("\x06\x03\x01\x04\x07\x01\x01")} {
		for _, at := range append([]int{-1, -2, -len(b) - 1, len(b), len(b) + 1, len(b) + 1000}, farNumbers...) {
			wantNoRead(t, b, at)
			wantNoRead(t, roomy(string(b)), at)
		}
	}
}

func TestTyReadRefusesOtherBytes(t *testing.T) {
	for kind := 8; kind <= 255; kind++ {
		wantNoRead(t, []byte{byte(kind), 1, 1, 1}, 0)
		wantNoRead(t, []byte{5, byte(kind), 1, 1, 1}, 0)
	}
	for _, b := range []string{
		"\x07\x80\x00", "\x07\x81\x00", "\x07\x80\x80\x00", "\x07\x80\x80\x80\x80\x00",
		"\x06\x80\x00\x00", "\x06\x81\x80\x00\x00", "\x06\x00\x80\x00", "\x06\x00\x81\x00\x01", "\x06\x05\x83\x80\x00\x01\x01\x01",
		"\x07\x80", "\x07\xff\xff\xff\xff\x08", "\x07\x80\x80\x80\x80\x10", "\x07\xff\xff\xff\xff\xff\x01",
		"\x07\xa0\x8d\x06", "\x07\xa1\x8d\x06", "\x07\xff\xff\xff\xff\x07",
		"\x06\x14\x00", "\x06\x15\x01\x01", "\x06\x80\x01\x00", "\x06\xff\xff\xff\xff\x07\x00",
		"\x06\x00\x04\x01\x01\x01\x01", "\x06\x00\x05\x01\x01\x01\x01\x01", "\x06\x00\x80\x01\x01", "\x06\x00\xff\xff\xff\xff\x07\x01\x01",
		"\x06", "\x06\x00", "\x06\x00\x01", "\x06\x00\x02\x01", "\x06\x00\x03\x01\x01",
		"\x03\x01\x08", "\x03\x08\x01", "\x04\x01\x07\x80\x00", "\x05\x06\x14\x00",
	} {
		wantNoRead(t, []byte(b), 0)
		wantNoRead(t, []byte("\x01\x05"+b), 1)
		wantNoRead(t, []byte("\xff\xff"+b), 2)
	}
	wantRead(t, []byte("\x06\x13\x03\x00\x01\x02"), 0, tyData(19, tyUnit, tyInt, tyText), 6)
	wantRead(t, []byte("\x07\x9f\x8d\x06"), 0, tyVar(99999), 4)
}

func TestTyReadHoldsTheLimits(t *testing.T) {
	for _, w := range wraps() {
		deepest := chain(impl.MaxDepth, tyInt, w.wrap)
		wantRead(t, []byte(rawBytes(deepest)), 0, deepest, len(rawBytes(deepest)))
	}
	for _, c := range tooMuch() {
		if b := []byte(rawBytesAtMost(c.ty, 5000)); len(b) < 5000 {
			wantNoRead(t, b, 0)
			wantNoRead(t, append([]byte{9, 9, 9}, b...), 3)
		}
	}
	for size := 1; size <= impl.MaxSize; size++ {
		wantRead(t, []byte(rawBytes(evenTree(size))), 0, evenTree(size), len(rawBytes(evenTree(size))))
	}
	for _, top := range []string{"\x05", "\x03", "\x04", "\x06\x00\x01", "\x06\x00\x03"} {
		wantNoRead(t, bytes.Repeat([]byte(top), 1000000), 0)
	}
	wide := "\x06\x00\x03" + strings.Repeat("\x06\x00\x03"+strings.Repeat("\x06\x00\x03"+strings.Repeat("\x06\x00\x03\x01\x01\x01", 3), 3), 3)
	wantNoRead(t, []byte(wide), 0)
}

// rawBytesAtMost spares the test trees whose bytes are too many to be worth it.
func rawBytesAtMost(t impl.Ty, most int) string {
	if rawSize(t) > most {
		return strings.Repeat("\x00", most)
	}
	return rawBytes(t)
}

// readAlphabet are bytes of which each kind, each count, and numbers of several bytes can be written, and wrong ones.
var readAlphabet = []byte{0, 1, 2, 3, 4, 5, 6, 7, 8, 0x80, 0xff}

// typesByBytes are all types that have that many bytes, all of them of readAlphabet.
func typesByBytes(count int) [][]impl.Ty {
	byCount := make([][]impl.Ty, count+1)
	for n := range impl.MaxVar {
		if t := tyVar(n); len(rawBytes(t)) <= count && !strings.ContainsFunc(rawBytes(t), notInAlphabet) {
			byCount[len(rawBytes(t))] = append(byCount[len(rawBytes(t))], t)
		}
	}
	byCount[1] = append(byCount[1], tyUnit, tyInt, tyText)
	for have := 2; have <= count; have++ {
		for _, arg := range byCount[have-1] {
			byCount[have] = append(byCount[have], tyOf(impl.TyRef, arg))
		}
		for _, args := range argLists(byCount, 2, have-1) {
			byCount[have] = append(byCount[have], tyOf(impl.TyPair, args...), tyOf(impl.TyFun, args...))
		}
		for args := 0; args <= impl.MaxArgs && have >= 3; args++ {
			for _, list := range argLists(byCount, args, have-3) {
				for n := range 9 {
					byCount[have] = append(byCount[have], tyData(n, list...))
				}
			}
		}
	}
	return byCount
}

func notInAlphabet(r rune) bool {
	// A byte of 128 or more that stands alone is read as no rune; only two such are looked for.
	return r > 8 && r != 0xFFFD
}

// argLists are all lists of so many types that have so many bytes in all.
func argLists(byCount [][]impl.Ty, args int, have int) [][]impl.Ty {
	if args == 0 {
		if have == 0 {
			return [][]impl.Ty{nil}
		}
		return nil
	}
	var lists [][]impl.Ty
	for first := 1; first <= have; first++ {
		for _, rest := range argLists(byCount, args-1, have-first) {
			for _, t := range byCount[first] {
				lists = append(lists, append([]impl.Ty{t}, rest...))
			}
		}
	}
	return lists
}

// TestEveryShortListOfBytes reads all that can be written of readAlphabet, and finds just the types there are.
func TestEveryShortListOfBytes(t *testing.T) {
	const count = 5
	known := map[string]impl.Ty{}
	for _, types := range typesByBytes(count) {
		for _, ty := range types {
			known[rawBytes(ty)] = ty
		}
	}
	for length := 0; length <= count; length++ {
		b := make([]byte, length)
		everyList(b, 0, func() {
			want, next := impl.Ty{}, -1
			for end := 1; end <= length; end++ {
				if ty, ok := known[string(b[:end])]; ok {
					want, next = ty, end
				}
			}
			wantRead(t, b, 0, want, next)
			if ty, end := impl.TyRead(b, 0); end >= 0 && string(impl.TyBytes(ty)) != string(b[:end]) {
				t.Errorf("%q is read as a type whose bytes are %q", b, impl.TyBytes(ty))
			}
		})
		if t.Failed() {
			return
		}
	}
}

func everyList(b []byte, at int, do func()) {
	if at == len(b) {
		do()
		return
	}
	for _, x := range readAlphabet {
		b[at] = x
		everyList(b, at+1, do)
	}
}

func TestBytesWithOneChanged(t *testing.T) {
	for _, ty := range sampleTypes() {
		whole := rawBytes(ty)
		for at := range len(whole) {
			for x := range 256 {
				b := []byte(whole)
				b[at] = byte(x)
				got, end := impl.TyRead(b, 0)
				if end == -1 {
					wantNoRead(t, b, 0)
				} else if !impl.TyOk(got) || string(impl.TyBytes(got)) != string(b[:end]) {
					t.Fatalf("%q is read as %v up to %d", b, got, end)
				}
			}
		}
	}
}

func TestNoTwoTypesHaveOneText(t *testing.T) {
	texts, allBytes := map[string]impl.Ty{}, map[string]impl.Ty{}
	types := sampleTypes()
	for _, some := range typesByBytes(5) {
		types = append(types, some...)
	}
	for _, ty := range types {
		s, b := string(impl.TySay(ty)), string(impl.TyBytes(ty))
		if s == "" || b == "" {
			t.Fatalf("%v has no text or bytes", ty)
		}
		if other, ok := texts[s]; ok && !rawSame(other, ty) {
			t.Fatalf("%s is the text of %v and %v", s, ty, other)
		}
		if other, ok := allBytes[b]; ok && !rawSame(other, ty) {
			t.Fatalf("%q are the bytes of %v and %v", b, ty, other)
		}
		texts[s], allBytes[b] = ty, ty
	}
}

func wantSubst(t *testing.T, ty impl.Ty, list []impl.Ty, want impl.Ty) {
	t.Helper()
	if got, ok := impl.TySubst(ty, list); !ok || !rawSame(got, want) {
		t.Errorf("TySubst of %s by %d: %v, %v", rawText(ty), len(list), got, ok)
	}
}

func wantNoSubst(t *testing.T, what string, ty impl.Ty, list []impl.Ty) {
	t.Helper()
	if got, ok := impl.TySubst(ty, list); ok || !isZeroTy(got) {
		t.Errorf("%s: TySubst by %d: %v, %v", what, len(list), got, ok)
	}
}

// selves are the variables, each at its own place.
func selves(count int) []impl.Ty {
	list := make([]impl.Ty, count)
	for n := range list {
		list[n] = tyVar(n)
	}
	return list
}

func TestVariablesThatStandForThemselves(t *testing.T) {
	for _, ty := range sampleTypes() {
		for _, count := range []int{0, 1, 2, 3, 4, 11, impl.MaxSize - 1, impl.MaxSize} {
			wantSubst(t, ty, selves(count), ty)
		}
	}
}

func TestTySubstPutsAllAtOnce(t *testing.T) {
	pair := tyOf(impl.TyPair, tyVar(0), tyVar(1))
	wantSubst(t, tyVar(0), []impl.Ty{tyInt}, tyInt)
	wantSubst(t, tyVar(0), []impl.Ty{tyVar(1), tyInt}, tyVar(1))
	wantSubst(t, tyVar(1), []impl.Ty{tyInt, tyVar(0)}, tyVar(0))
	wantSubst(t, tyVar(0), []impl.Ty{pair}, pair)
	wantSubst(t, pair, []impl.Ty{tyVar(1), tyVar(0)}, tyOf(impl.TyPair, tyVar(1), tyVar(0)))
	wantSubst(t, pair, []impl.Ty{pair, pair}, tyOf(impl.TyPair, pair, pair))
	wantSubst(t, pair, []impl.Ty{tyVar(1), tyVar(2), tyInt}, tyOf(impl.TyPair, tyVar(1), tyVar(2)))
	wantSubst(t, pair, []impl.Ty{tyData(4, tyVar(0), tyVar(1), tyVar(7))}, tyOf(impl.TyPair, tyData(4, tyVar(0), tyVar(1), tyVar(7)), tyVar(1)))
	wantSubst(t, tyData(3, tyVar(2), tyOf(impl.TyRef, tyVar(0)), tyVar(2)), []impl.Ty{tyText, tyUnit, tyOf(impl.TyFun, tyVar(0), tyVar(2))},
		tyData(3, tyOf(impl.TyFun, tyVar(0), tyVar(2)), tyOf(impl.TyRef, tyText), tyOf(impl.TyFun, tyVar(0), tyVar(2))))
}

// TestTySubstLeavesOtherNumbers: N is a place for a variable alone, not for a data.
func TestTySubstLeavesOtherNumbers(t *testing.T) {
	list := []impl.Ty{tyInt, tyText}
	wantSubst(t, tyData(0), list, tyData(0))
	wantSubst(t, tyData(1, tyVar(1)), list, tyData(1, tyText))
	wantSubst(t, tyUnit, list, tyUnit)
	for _, n := range []int{2, 3, impl.MaxSize, impl.MaxVar - 1} {
		wantSubst(t, tyVar(n), list, tyVar(n))
		wantSubst(t, tyOf(impl.TyPair, tyVar(n), tyVar(1)), list, tyOf(impl.TyPair, tyVar(n), tyText))
	}
	wantSubst(t, tyVar(0), nil, tyVar(0))
	// What lies behind the length of list is no place in it.
	wantSubst(t, tyVar(1), list[:1], tyVar(1))
}

func TestTySubstByLongLists(t *testing.T) {
	list := slices.Repeat([]impl.Ty{tyText}, impl.MaxSize)
	list[0], list[impl.MaxSize-1] = tyInt, tyUnit
	wantSubst(t, tyVar(0), list, tyInt)
	wantSubst(t, tyVar(1), list, tyText)
	wantSubst(t, tyVar(impl.MaxSize-1), list, tyUnit)
	wantSubst(t, tyVar(impl.MaxSize), list, tyVar(impl.MaxSize))
	wantSubst(t, tyInt, list, tyInt)
	for _, count := range []int{impl.MaxSize + 1, impl.MaxSize + 2, 1000000} {
		wantNoSubst(t, "a long list", tyVar(0), make([]impl.Ty, count))
		wantNoSubst(t, "a long list that nobody asks", tyInt, make([]impl.Ty, count))
	}
}

func TestTySubstByWhatIsNoType(t *testing.T) {
	for _, c := range noTypes() {
		for at := range 3 {
			list := slices.Insert([]impl.Ty{tyInt, tyText}, at, c.ty)
			wantNoSubst(t, c.name, tyVar(at), list)
			wantNoSubst(t, c.name+", which nobody asks for", tyOf(impl.TyRef, tyVar((at+1)%3)), list)
			wantNoSubst(t, c.name+", without variables", tyInt, list)
		}
	}
	list := make([]impl.Ty, impl.MaxSize)
	list[impl.MaxSize-1] = tyVar(impl.MaxVar)
	wantNoSubst(t, "the last of MaxSize", tyVar(0), list)
}

func TestTySubstHoldsTheDepth(t *testing.T) {
	for _, w := range wraps() {
		for depth := 1; depth <= impl.MaxDepth; depth++ {
			for put := 1; put <= impl.MaxDepth; put++ {
				ty, list := chain(depth, tyVar(1), w.wrap), []impl.Ty{tyInt, chain(put, tyText, wraps()[0].wrap)}
				want := rawSubst(ty, list)
				if depth-1+put <= impl.MaxDepth {
					wantSubst(t, ty, list, want)
				} else {
					wantNoSubst(t, w.name, ty, list)
				}
			}
		}
	}
}

// TestTySubstHoldsTheSize: two variables and a tree of their own beside them grow by what is put.
func TestTySubstHoldsTheSize(t *testing.T) {
	for beside := 1; beside <= impl.MaxSize-3; beside++ {
		ty := tyData(0, tyVar(0), evenTree(beside), tyVar(0))
		for put := 1; put <= impl.MaxSize; put++ {
			// evenTree has the variable 1 alone, so that it stays as it is.
			list := []impl.Ty{evenTree(put)}
			if size := 1 + beside + 2*put; size <= impl.MaxSize {
				wantSubst(t, ty, list, rawSubst(ty, list))
			} else {
				wantNoSubst(t, fmt.Sprint("size ", size), ty, list)
			}
		}
	}
	wantSubst(t, tyVar(0), []impl.Ty{evenTree(impl.MaxSize)}, evenTree(impl.MaxSize))
	wantNoSubst(t, "ref of MaxSize", tyOf(impl.TyRef, tyVar(0)), []impl.Ty{evenTree(impl.MaxSize)})
	largest := evenTree(impl.MaxSize)
	wantSubst(t, largest, []impl.Ty{tyInt, tyText}, rawSubst(largest, []impl.Ty{tyInt, tyText}))
	wantNoSubst(t, "every leaf of the largest", largest, []impl.Ty{tyInt, largest})
}

// someType is a tree of types with variables below vars, which may be too deep or too large.
func (w *walk) someType(depth int, vars int) impl.Ty {
	if depth <= 1 || w.below(5) == 0 {
		switch w.below(3) {
		case 0:
			return tyOf(w.below(3))
		case 1:
			return tyData(w.below(impl.MaxData))
		}
		return tyVar(w.below(vars))
	}
	kind := impl.TyPair + w.below(4)
	t := impl.Ty{Kind: kind}
	count := []int{2, 2, 1, w.below(impl.MaxArgs + 1)}[kind-impl.TyPair]
	if kind == impl.TyData {
		t.N = w.below(impl.MaxData)
	}
	for range count {
		t.Args = append(t.Args, w.someType(depth-1, vars))
	}
	return t
}

// someOk is a type: one that someType makes within the limits.
func (w *walk) someOk(vars int) impl.Ty {
	for {
		if t := w.someType(1+w.below(impl.MaxDepth), vars); rawSize(t) <= impl.MaxSize {
			return t
		}
	}
}

func TestManyTypesAgainstTheWords(t *testing.T) {
	w := &walk{state: 3}
	for range 4000 {
		ty := w.someType(1+w.below(impl.MaxDepth+2), 200)
		ok := rawSize(ty) <= impl.MaxSize && rawDepth(ty) <= impl.MaxDepth
		if impl.TyOk(ty) != ok {
			t.Fatalf("%s: ok %v", rawText(ty), !ok)
		}
		b := rawBytes(ty)
		if !ok {
			wantNoRead(t, []byte(b), 0)
			continue
		}
		if impl.TySize(ty) != rawSize(ty) || string(impl.TySay(ty)) != rawText(ty) || string(impl.TyBytes(ty)) != b || !slices.Equal(impl.TyVars(ty), rawVars(ty)) {
			t.Fatalf("%s: size %d, text %s, bytes %q, vars %v", rawText(ty), impl.TySize(ty), impl.TySay(ty), impl.TyBytes(ty), impl.TyVars(ty))
		}
		wantRead(t, []byte("\x05"+b+"\x05"), 1, ty, len(b)+1)
		wantSubst(t, ty, selves(w.below(impl.MaxSize+1)), ty)
	}
}

func TestManySubstsAgainstTheWords(t *testing.T) {
	w := &walk{state: 4}
	done, refused := 0, 0
	for range 4000 {
		ty := w.someOk(6)
		var list []impl.Ty
		for range w.below(6) {
			list = append(list, w.someOk(8))
		}
		want := rawSubst(ty, list)
		if rawSize(want) <= impl.MaxSize && rawDepth(want) <= impl.MaxDepth {
			wantSubst(t, ty, list, want)
			done++
		} else {
			wantNoSubst(t, rawText(ty), ty, list)
			refused++
		}
	}
	if done < 300 || refused < 300 {
		t.Errorf("the test's own types: %d done, %d refused", done, refused)
	}
}

// roomyCases are types and trees with an end that are none, small enough to be copied.
func roomyCases() []tyCase {
	var cases []tyCase
	for _, ty := range sampleTypes() {
		cases = append(cases, tyCase{rawText(ty), ty})
	}
	for _, c := range noTop() {
		if len(c.ty.Args) < 10 {
			cases = append(cases, c, tyCase{c.name + ", as a part", tyOf(impl.TyRef, c.ty)})
		}
	}
	return append(cases,
		tyCase{"one too deep", chain(impl.MaxDepth+1, tyInt, wraps()[0].wrap)},
		tyCase{"one too large", evenTree(impl.MaxSize + 1)})
}

func TestAskingChangesNoType(t *testing.T) {
	for _, c := range roomyCases() {
		arg := []impl.Ty{roomyTy(c.ty)}
		ok := impl.TyOk(c.ty)
		if impl.TyOk(arg[0]) != ok || impl.TySize(arg[0]) != impl.TySize(c.ty) || impl.TyBoxed(arg[0]) != impl.TyBoxed(c.ty) {
			t.Errorf("%s: what lies behind a list was read", c.name)
		}
		if impl.TyEq(arg[0], c.ty) != ok || impl.TyEq(c.ty, arg[0]) != ok || !slices.Equal(impl.TyVars(arg[0]), impl.TyVars(c.ty)) {
			t.Errorf("%s: what lies behind a list was read", c.name)
		}
		if !bytes.Equal(impl.TyBytes(arg[0]), impl.TyBytes(c.ty)) || !bytes.Equal(impl.TySay(arg[0]), impl.TySay(c.ty)) {
			t.Errorf("%s: what lies behind a list was read", c.name)
		}
		wantRoomyTys(t, c.name, arg, []impl.Ty{c.ty})
	}
}

func TestTySubstHasMemoryOfItsOwn(t *testing.T) {
	lists := [][]impl.Ty{
		nil,
		{tyInt},
		{tyOf(impl.TyPair, tyInt, tyVar(0)), tyData(2, tyText, tyVar(4)), tyOf(impl.TyRef, tyUnit), tyVar(0)},
		{tyVar(3), tyVar(2), tyVar(1), tyOf(impl.TyFun, tyVar(3), tyVar(3))},
		{tyInt, tyOf(impl.TyRef)},
	}
	for _, c := range roomyCases() {
		for _, list := range lists {
			arg, roomyList := roomyTy(c.ty), roomyTys(list)
			got, ok := impl.TySubst(arg, roomyList)
			plain, plainOk := impl.TySubst(c.ty, list)
			if ok != plainOk || !rawSame(got, plain) {
				t.Errorf("%s: what lies behind a list was read", c.name)
			}
			wantOwnTy(t, c.name, got, arg, impl.Ty{Args: roomyList})
			scribbleTy(got)
			wantRoomyTys(t, c.name, []impl.Ty{arg}, []impl.Ty{c.ty})
			wantRoomyTys(t, c.name, roomyList, list)
		}
	}
}

// TestTySubstOfPartsThatShare: what the arguments share the answer does not.
func TestTySubstOfPartsThatShare(t *testing.T) {
	part := tyOf(impl.TyPair, tyInt, tyVar(0))
	shared := tyData(0, part, part, part)
	for _, list := range [][]impl.Ty{nil, {part}, {part, part}, {tyVar(0)}, shared.Args} {
		got, ok := impl.TySubst(shared, list)
		if !ok || !rawSame(got, rawSubst(shared, list)) {
			t.Errorf("by %d: %v, %v", len(list), got, ok)
		}
		wantOwnTy(t, "parts that share", got, shared, impl.Ty{Args: list})
	}
}

func TestTyReadHasMemoryOfItsOwn(t *testing.T) {
	for _, ty := range sampleTypes() {
		text := "\x05" + rawBytes(ty) + "\x05"
		b := roomy(text)
		got, _ := impl.TyRead(b, 1)
		wantRoomy(t, rawText(ty), b, text)
		wantOwnTy(t, rawText(ty), got)
		scribble(b)
		if !rawSame(got, ty) {
			t.Errorf("%s: the answer changes with the bytes", rawText(ty))
		}
	}
	for _, text := range []string{"", "\x05", "\x08", "\x06\x00\x04", "\x07\x80\x00", "\x03\x01"} {
		b := roomy(text)
		wantNoRead(t, b, 0)
		wantRoomy(t, "what is no type", b, text)
	}
}

func TestAnswersAboutTypesAreNew(t *testing.T) {
	for _, ty := range sampleTypes() {
		b, s, vars := impl.TyBytes(ty), impl.TySay(ty), impl.TyVars(ty)
		read, _ := impl.TyRead(b, 0)
		put, _ := impl.TySubst(ty, nil)
		scribbleTy(read)
		scribbleTy(put)
		scribble(b)
		scribble(s)
		for i := range vars[:cap(vars)] {
			vars[:cap(vars)][i] = -7
		}
		if string(impl.TyBytes(ty)) != rawBytes(ty) || string(impl.TySay(ty)) != rawText(ty) || !slices.Equal(impl.TyVars(ty), rawVars(ty)) {
			t.Errorf("%s: an answer was kept", rawText(ty))
		}
		wantRead(t, []byte(rawBytes(ty)), 0, ty, len(rawBytes(ty)))
		wantSubst(t, ty, nil, ty)
	}
}

func TestTypesAskedByManyAtOnce(t *testing.T) {
	types := sampleTypes()
	var all sync.WaitGroup
	wrong := make([]int, 16)
	for worker := range wrong {
		all.Go(func() {
			for _, ty := range types {
				got, next := impl.TyRead(impl.TyBytes(ty), 0)
				if next < 0 || string(impl.TySay(got)) != rawText(ty) || impl.TyBoxed(got) != rawBoxed(ty) {
					wrong[worker]++
				}
			}
		})
	}
	all.Wait()
	if !filled(wrong, 0) {
		t.Error("wrong answers:", wrong)
	}
}
