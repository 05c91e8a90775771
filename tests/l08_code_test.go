package tests

import (
	"encoding/binary"
	"fmt"
	"math"
	"slices"
	"strings"
	"testing"

	"loop.example/g00293/impl"
)

// opHas says, a letter each, what the instructions of an op have: A, B, T for To, L for Lit, and I for the A of InInt.
func opHas(op int) string {
	switch op {
	case impl.InInt:
		return "I"
	case impl.InEnv, impl.InGet, impl.InSet, impl.InClose, impl.InJump, impl.InIf, impl.InTry, impl.InForeign:
		return "A"
	case impl.InCon:
		return "AB"
	case impl.InCase:
		return "AT"
	case impl.InLit:
		return "L"
	}
	return ""
}

func rawIsNum(n int) bool {
	return n >= 0 && n <= impl.MaxNum
}

func rawInsOk(n impl.Ins) bool {
	has := func(letter string) bool { return strings.Contains(opHas(n.Op), letter) }
	a := n.A == 0 || has("A") && rawIsNum(n.A) || has("I") && n.A >= leastWhole && n.A <= mostWhole
	b := n.B == 0 || has("B") && rawIsNum(n.B)
	lit := len(n.Lit) == 0 || has("L") && literalForm.Match(n.Lit)
	to := !has("T") && len(n.To) == 0 || has("T") && len(n.To) >= 1 && len(n.To) <= impl.MaxCons
	for _, place := range n.To {
		to = to && rawIsNum(place)
	}
	return n.Op >= 0 && n.Op <= impl.InForeign && a && b && lit && to
}

// A rawCoder writes whatever it is given, as the document says it of a program; numbers are where the bytes of one begin and end.
type rawCoder struct {
	out     []byte
	numbers [][2]int
}

func (c *rawCoder) num(n int) {
	begin := len(c.out)
	c.out = binary.AppendUvarint(c.out, uint64(n))
	c.numbers = append(c.numbers, [2]int{begin, len(c.out)})
}

func (c *rawCoder) ty(ty impl.Ty) {
	c.out = append(c.out, byte(ty.Kind))
	if ty.Kind == impl.TyVar || ty.Kind == impl.TyData {
		c.num(ty.N)
	}
	if ty.Kind == impl.TyData {
		c.num(len(ty.Args))
	}
	for _, arg := range ty.Args {
		c.ty(arg)
	}
}

func rawList[T any](c *rawCoder, list []T, one func(T)) {
	c.num(len(list))
	for _, x := range list {
		one(x)
	}
}

func (c *rawCoder) ins(n impl.Ins) {
	c.out = append(c.out, byte(n.Op))
	for _, letter := range opHas(n.Op) {
		switch letter {
		case 'A':
			c.num(n.A)
		case 'I':
			c.num(int(uint(n.A<<1 ^ n.A>>63)))
		case 'B':
			c.num(n.B)
		case 'T':
			rawList(c, n.To, c.num)
		case 'L':
			rawList(c, n.Lit, func(b byte) { c.out = append(c.out, b) })
		}
	}
}

func (c *rawCoder) program(p impl.Program) {
	c.out = append(c.out, 'L', 'K')
	rawList(c, p.Layouts, func(layout impl.Layout) {
		rawList(c, layout.Cons, func(fields []impl.Ty) { rawList(c, fields, c.ty) })
	})
	rawList(c, p.Caps, c.num)
	rawList(c, p.Blocks, func(b impl.Block) {
		rawList(c, b.Env, c.ty)
		c.ty(b.Arg)
		c.ty(b.Res)
		rawList(c, b.Locals, c.ty)
		rawList(c, b.Code, c.ins)
	})
}

func rawCode(p impl.Program) string {
	var c rawCoder
	c.program(p)
	return string(c.out)
}

func rawBlockOk(b impl.Block, layouts int) bool {
	ok := len(b.Env) <= impl.MaxHeld && len(b.Locals) <= impl.MaxHeld && len(b.Code) >= 1 && len(b.Code) <= impl.MaxCode
	for _, ty := range slices.Concat(b.Env, b.Locals, []impl.Ty{b.Arg, b.Res}) {
		ok = ok && rawLowTy(ty, layouts)
	}
	return ok && rawLowTy(tyOf(impl.TyFun, b.Arg, b.Res), layouts) && !slices.ContainsFunc(b.Code, func(n impl.Ins) bool { return !rawInsOk(n) })
}

func rawProgramOk(p impl.Program) bool {
	ok := rawLayoutsOk(p.Layouts) && len(p.Blocks) >= 1 && len(p.Blocks) <= impl.MaxBlocks
	for i, kind := range p.Caps {
		ok = ok && kind >= impl.CapPrint && kind <= impl.CapPut && (i == 0 || p.Caps[i-1] < kind)
	}
	for _, b := range p.Blocks {
		ok = ok && rawBlockOk(b, len(p.Layouts))
	}
	return ok && len(rawCode(p)) <= impl.MaxBytes
}

func rawCapsOf(p impl.Program) []int {
	var list []int
	for kind := range impl.CapPut + 1 {
		for _, b := range p.Blocks {
			if slices.ContainsFunc(b.Code, func(n impl.Ins) bool { return n.Op == impl.InForeign && n.A == kind }) {
				list = append(list, kind)
				break
			}
		}
	}
	return list
}

func sameIns(a impl.Ins, b impl.Ins) bool {
	return a.Op == b.Op && a.A == b.A && a.B == b.B && sameText(a.Lit, b.Lit) && slices.Equal(a.To, b.To)
}

func sameBlock(a impl.Block, b impl.Block) bool {
	return slices.EqualFunc(a.Env, b.Env, rawSame) && rawSame(a.Arg, b.Arg) && rawSame(a.Res, b.Res) && slices.EqualFunc(a.Locals, b.Locals, rawSame) && slices.EqualFunc(a.Code, b.Code, sameIns)
}

func sameProgram(a impl.Program, b impl.Program) bool {
	return slices.EqualFunc(a.Layouts, b.Layouts, sameLayout) && slices.EqualFunc(a.Blocks, b.Blocks, sameBlock) && slices.Equal(a.Caps, b.Caps)
}

func isZeroProgram(p impl.Program) bool {
	return sameProgram(p, impl.Program{})
}

func copyProgram(p impl.Program) impl.Program {
	p.Layouts, p.Blocks, p.Caps = copyLayouts(p.Layouts), slices.Clone(p.Blocks), slices.Clone(p.Caps)
	for i, b := range p.Blocks {
		b.Env, b.Locals, b.Code = slices.Clone(b.Env), slices.Clone(b.Locals), slices.Clone(b.Code)
		for k, n := range b.Code {
			n.Lit, n.To = slices.Clone(n.Lit), slices.Clone(n.To)
			b.Code[k] = n
		}
		p.Blocks[i] = b
	}
	return p
}

// wantProgram looks for all that is said of a program that is ProgramOk, and of one that is not.
func wantProgram(t *testing.T, what string, p impl.Program, ok bool) {
	t.Helper()
	if got := impl.ProgramOk(p); got != ok {
		t.Errorf("%s: ProgramOk is %v", what, got)
	}
	b, got := impl.CodeBytes(p)
	caps := impl.CapsOf(p)
	if !ok {
		if got || len(b) > 0 || len(caps) > 0 {
			t.Errorf("%s: %v, %d bytes, caps %v", what, got, len(b), caps)
		}
		return
	}
	if !got || string(b) != rawCode(p) {
		t.Errorf("%s: %v, other bytes: %.300v", what, got, b)
	}
	if !slices.Equal(caps, rawCapsOf(p)) {
		t.Errorf("%s: caps %v, not %v", what, caps, rawCapsOf(p))
	}
	if back, got := impl.CodeRead(b); !got || !sameProgram(back, p) {
		t.Errorf("%s: %v, does not come back: %.300v", what, got, back)
	}
}

func TestLimitsAndOpsOfCode(t *testing.T) {
	if got := []int{impl.MaxBlocks, impl.MaxCode, impl.MaxHeld, impl.MaxBytes}; !slices.Equal(got, []int{150, 1000, 60, 30000}) {
		t.Error("limits:", got)
	}
	ops := []int{impl.InUnit, impl.InInt, impl.InLit, impl.InArg, impl.InEnv, impl.InSelf, impl.InGet, impl.InSet, impl.InAdd, impl.InSub, impl.InMul, impl.InLess, impl.InSame, impl.InCat, impl.InLen, impl.InPair,
		impl.InFst, impl.InSnd, impl.InRef, impl.InRead, impl.InWrite, impl.InCon, impl.InCase, impl.InClose, impl.InCall, impl.InReturn, impl.InJump, impl.InIf, impl.InRaise, impl.InTry, impl.InDone, impl.InForeign}
	for i, op := range ops {
		if op != i {
			t.Errorf("op %d is %d", i, op)
		}
	}
}

// insNumbers are those at which an A or a B may stop to be one.
var insNumbers = []int{math.MinInt, leastWhole - 1, leastWhole, leastWhole + 1, -2, -1, 0, 1, 127, 128, mostWhole - 1, mostWhole, mostWhole + 1, impl.MaxNum - 1, impl.MaxNum, impl.MaxNum + 1, 1 << 32, math.MaxInt}

func insLits() [][]byte {
	lits := [][]byte{nil, {}, []byte("a"), []byte(" !#[]~"), []byte(strings.Repeat("m", impl.MaxLit-1)), []byte(strings.Repeat("m", impl.MaxLit)), []byte(strings.Repeat("m", impl.MaxLit+1)), []byte(strings.Repeat("m", impl.MaxText)),
		[]byte("a\"b"), []byte("\\"), []byte("ab\n"), {31}, {127}, {0}, {128}, {255}, []byte(strings.Repeat("m", impl.MaxLit-1) + "\"")}
	return lits
}

func insTos() [][]int {
	return [][]int{nil, {}, {0}, {1}, {-1}, {impl.MaxNum}, {impl.MaxNum + 1}, {3, 3}, {0, 1, 2, 3}, {4, 3, 2, 1, 0}, slices.Repeat([]int{impl.MaxNum}, impl.MaxCons), slices.Repeat([]int{7}, impl.MaxCons+1), slices.Repeat([]int{7}, 1000),
		{0, 0, 0, 0, -1}, {impl.MaxNum + 1, 0, 0, 0, 0}, {0, math.MinInt, 0}, {0, math.MaxInt}}
}

func insOps() []int {
	ops := []int{math.MinInt, -256, -2, impl.InForeign + 2, 127, 128, 255, 256, 256 + impl.InLit, math.MaxInt}
	for op := -1; op <= impl.InForeign+1; op++ {
		ops = append(ops, op)
	}
	return ops
}

// TestInsOfEveryOp: each of A, B, Lit and To, as the op has it and as it has it not, all together.
func TestInsOfEveryOp(t *testing.T) {
	taken := map[int]int{}
	for _, op := range insOps() {
		for _, a := range insNumbers {
			for _, b := range insNumbers {
				for _, lit := range insLits() {
					for _, to := range insTos() {
						n := impl.Ins{Op: op, A: a, B: b, Lit: lit, To: to}
						ok := rawInsOk(n)
						if impl.InsOk(n) != ok {
							t.Fatalf("%.200v: InsOk is %v", n, !ok)
						}
						if ok {
							taken[op]++
						}
					}
				}
			}
		}
	}
	// What is had not is nothing in two ways (nil and an empty list) for each of Lit and To.
	for op := range impl.InForeign + 1 {
		want := 4 * map[string]int{"": 1, "I": 10, "A": 9, "AB": 9 * 9}[opHas(op)]
		switch op {
		case impl.InCase:
			want = 2 * 9 * 7
		case impl.InLit:
			want = 2 * 6
		}
		if taken[op] != want {
			t.Errorf("op %d: %d are taken, not %d", op, taken[op], want)
		}
	}
	if len(taken) != impl.InForeign+1 {
		t.Error("ops:", len(taken))
	}
}

// TestInsByTheWords: the edges that the document names, without the test's own rules.
func TestInsByTheWords(t *testing.T) {
	most := []byte(strings.Repeat("x", impl.MaxLit))
	for _, n := range []impl.Ins{
		{}, {Op: impl.InUnit}, {Op: impl.InInt, A: -1073741824}, {Op: impl.InInt, A: 1073741823}, {Op: impl.InInt}, {Op: impl.InInt, A: -1}, {Op: impl.InLit}, {Op: impl.InLit, Lit: most}, {Op: impl.InLit, Lit: []byte(" ~")},
		{Op: impl.InEnv, A: impl.MaxNum}, {Op: impl.InGet}, {Op: impl.InSet, A: 1}, {Op: impl.InCon, A: impl.MaxNum, B: impl.MaxNum}, {Op: impl.InCon}, {Op: impl.InCase, To: []int{0}}, {Op: impl.InCase, A: impl.MaxNum, To: []int{impl.MaxNum, 0, 5, 5, 5}},
		{Op: impl.InClose, A: 149}, {Op: impl.InJump, A: impl.MaxNum}, {Op: impl.InIf, A: 7}, {Op: impl.InTry, A: impl.MaxNum}, {Op: impl.InForeign, A: impl.CapPut + 1}, {Op: impl.InForeign, A: impl.MaxNum}, {Op: impl.InDone}, {Op: impl.InArg, Lit: []byte{}, To: []int{}},
	} {
		if !impl.InsOk(n) {
			t.Errorf("%v is not InsOk", n)
		}
	}
	for _, n := range []impl.Ins{
		{Op: -1}, {Op: 32}, {Op: impl.InUnit, A: 1}, {Op: impl.InAdd, A: -1}, {Op: impl.InReturn, B: 1}, {Op: impl.InCall, To: []int{0}}, {Op: impl.InArg, Lit: []byte(" ")}, {Op: impl.InInt, A: -1073741825}, {Op: impl.InInt, A: 1073741824}, {Op: impl.InInt, B: 1}, {Op: impl.InInt, A: 1, To: []int{1}},
		{Op: impl.InLit, A: 1}, {Op: impl.InLit, Lit: append(slices.Clone(most), 'x')}, {Op: impl.InLit, Lit: []byte("\"")}, {Op: impl.InLit, Lit: []byte("\\")}, {Op: impl.InLit, Lit: []byte{31}}, {Op: impl.InLit, Lit: []byte{127}},
		{Op: impl.InEnv, A: -1}, {Op: impl.InGet, A: impl.MaxNum + 1}, {Op: impl.InSet, B: 1}, {Op: impl.InJump, A: -1}, {Op: impl.InIf, To: []int{1}}, {Op: impl.InClose, Lit: []byte("x")}, {Op: impl.InTry, A: impl.MaxNum + 1}, {Op: impl.InForeign, A: -1},
		{Op: impl.InCon, A: -1}, {Op: impl.InCon, B: -1}, {Op: impl.InCon, B: impl.MaxNum + 1}, {Op: impl.InCon, To: []int{1}}, {Op: impl.InCase}, {Op: impl.InCase, To: []int{}}, {Op: impl.InCase, To: make([]int, impl.MaxCons+1)}, {Op: impl.InCase, To: []int{-1}},
		{Op: impl.InCase, To: []int{0, impl.MaxNum + 1}}, {Op: impl.InCase, B: 1, To: []int{1}}, {Op: impl.InCase, A: -1, To: []int{1}}, {Op: impl.InDone, A: 1},
	} {
		if impl.InsOk(n) {
			t.Errorf("%v is InsOk", n)
		}
	}
}

// everyIns are instructions of every op, with small parts and with great ones.
func everyIns() []impl.Ins {
	var list []impl.Ins
	for op := range impl.InForeign + 1 {
		switch opHas(op) {
		case "I":
			for _, a := range []int{0, 1, -1, 63, -64, 64, 8191, mostWhole, leastWhole} {
				list = append(list, impl.Ins{Op: op, A: a})
			}
		case "A":
			list = append(list, impl.Ins{Op: op}, impl.Ins{Op: op, A: 127}, impl.Ins{Op: op, A: 128}, impl.Ins{Op: op, A: impl.MaxNum})
		case "AB":
			list = append(list, impl.Ins{Op: op, A: 1, B: 2}, impl.Ins{Op: op, A: 300, B: impl.MaxNum})
		case "AT":
			list = append(list, impl.Ins{Op: op, A: 2, To: []int{9}}, impl.Ins{Op: op, A: 200, To: []int{0, 127, 128, 16384, impl.MaxNum}})
		case "L":
			list = append(list, impl.Ins{Op: op}, impl.Ins{Op: op, Lit: []byte("a b")}, impl.Ins{Op: op, Lit: []byte(strings.Repeat("~", impl.MaxLit))})
		default:
			list = append(list, impl.Ins{Op: op})
		}
	}
	return list
}

// everyProgram has all that a program may have: layouts, types of each kind, instructions of every op.
func everyProgram() impl.Program {
	pair, fun := tyOf(impl.TyPair, tyInt, tyData(1)), tyOf(impl.TyFun, tyText, tyData(2))
	return impl.Program{
		Layouts: []impl.Layout{{Cons: [][]impl.Ty{nil}}, {Cons: [][]impl.Ty{{tyInt, inRef(tyData(0)), tyText}, nil, {tyData(2)}, {fun}, {tyUnit, pair}}}, {Cons: [][]impl.Ty{nil, {tyData(2)}}}},
		Blocks: []impl.Block{
			{Res: tyInt, Code: everyIns()},
			{Env: []impl.Ty{tyInt, fun, tyData(0)}, Arg: pair, Res: inRef(fun), Locals: []impl.Ty{tyText, tyUnit, tyData(2), pair}, Code: []impl.Ins{{Op: impl.InArg}, {Op: impl.InForeign, A: impl.CapGet}, {Op: impl.InReturn}}},
			{Arg: tyData(1), Res: tyUnit, Locals: []impl.Ty{refs(impl.MaxDepth, tyInt), fieldOf(impl.MaxSize)}, Code: []impl.Ins{{Op: impl.InForeign, A: impl.CapPrint}}},
		},
		Caps: []int{impl.CapPrint, impl.CapTick, impl.CapPut},
	}
}

func TestProgramsOfEveryOp(t *testing.T) {
	wantProgram(t, "every op", everyProgram(), true)
	for _, n := range everyIns() {
		wantProgram(t, fmt.Sprint(n), oneBlock(impl.Block{Code: []impl.Ins{n}}), true)
		wantProgram(t, fmt.Sprint(n, " twice"), oneBlock(impl.Block{Code: []impl.Ins{{Op: impl.InUnit}, n, n}}), true)
	}
}

func oneBlock(b impl.Block) impl.Program {
	return impl.Program{Blocks: []impl.Block{b}}
}

// units are so many instructions of one byte each.
func units(count int) []impl.Ins {
	return make([]impl.Ins, count)
}

// TestCodeToTheByte: bytes that are written out by hand.
func TestCodeToTheByte(t *testing.T) {
	for _, c := range []struct {
		p     impl.Program
		bytes string
	}{
		{oneBlock(impl.Block{Code: units(1)}), "LK\x00\x00\x01" + "\x00\x00\x00\x00\x01\x00"},
		{impl.Program{Blocks: []impl.Block{{Res: tyInt, Code: []impl.Ins{{Op: impl.InInt, A: -2}, {Op: impl.InForeign, A: 2}, {Op: impl.InReturn}}}}, Caps: []int{2}}, "LK\x00\x01\x02\x01" + "\x00\x00\x01\x00\x03" + "\x01\x03" + "\x1f\x02" + "\x19"},
		{impl.Program{Layouts: []impl.Layout{{Cons: [][]impl.Ty{nil, {tyInt, tyData(1)}}}, {Cons: [][]impl.Ty{{inRef(tyData(0))}}}}, Blocks: []impl.Block{{Code: units(1)}, {Arg: tyText, Res: tyOf(impl.TyPair, tyInt, tyUnit), Code: units(2)}}, Caps: []int{0, 1, 2, 3, 4}},
			"LK\x02" + "\x02\x00\x02\x01\x06\x01\x00" + "\x01\x01\x05\x06\x00\x00" + "\x05\x00\x01\x02\x03\x04" + "\x02" + "\x00\x00\x00\x00\x01\x00" + "\x00\x02\x03\x01\x00\x00\x02\x00\x00"},
		{oneBlock(impl.Block{Env: []impl.Ty{tyInt, tyText}, Arg: tyOf(impl.TyFun, tyInt, tyText), Res: inRef(tyUnit), Locals: []impl.Ty{tyUnit, tyInt, inRef(tyInt)}, Code: []impl.Ins{{Op: impl.InCase, A: 1, To: []int{2, 128}}}}),
			"LK\x00\x00\x01" + "\x02\x01\x02" + "\x04\x01\x02" + "\x05\x00" + "\x03\x00\x01\x05\x01" + "\x01" + "\x16\x01\x02\x02\x80\x01"},
		{oneBlock(impl.Block{Code: []impl.Ins{{Op: impl.InInt, A: leastWhole}, {Op: impl.InInt, A: mostWhole}, {Op: impl.InInt, A: 64}, {Op: impl.InInt, A: 63}}}),
			"LK\x00\x00\x01" + "\x00\x00\x00\x00\x04" + "\x01\xff\xff\xff\xff\x07" + "\x01\xfe\xff\xff\xff\x07" + "\x01\x80\x01" + "\x01\x7e"},
		{oneBlock(impl.Block{Code: []impl.Ins{{Op: impl.InLit, Lit: []byte("hi")}, {Op: impl.InLit}, {Op: impl.InCon, A: 3, B: 4}, {Op: impl.InEnv, A: 5}, {Op: impl.InGet, A: 300}, {Op: impl.InSet, A: 6}, {Op: impl.InClose, A: 7}}}),
			"LK\x00\x00\x01" + "\x00\x00\x00\x00\x07" + "\x02\x02hi" + "\x02\x00" + "\x15\x03\x04" + "\x04\x05" + "\x06\xac\x02" + "\x07\x06" + "\x17\x07"},
		{oneBlock(impl.Block{Code: []impl.Ins{{Op: impl.InJump, A: impl.MaxNum}, {Op: impl.InIf, A: 1}, {Op: impl.InTry, A: 127}, {Op: impl.InDone}, {Op: impl.InForeign, A: 9}}}),
			"LK\x00\x00\x01" + "\x00\x00\x00\x00\x05" + "\x1a\xff\xff\xff\xff\x07" + "\x1b\x01" + "\x1d\x7f" + "\x1e" + "\x1f\x09"},
		{oneBlock(impl.Block{Code: []impl.Ins{{Op: impl.InUnit}, {Op: impl.InArg}, {Op: impl.InSelf}, {Op: impl.InAdd}, {Op: impl.InSub}, {Op: impl.InMul}, {Op: impl.InLess}, {Op: impl.InSame}, {Op: impl.InCat}, {Op: impl.InLen}, {Op: impl.InPair}, {Op: impl.InFst}, {Op: impl.InSnd},
			{Op: impl.InRef}, {Op: impl.InRead}, {Op: impl.InWrite}, {Op: impl.InCall}, {Op: impl.InReturn}, {Op: impl.InRaise}, {Op: impl.InDone}}}),
			"LK\x00\x00\x01" + "\x00\x00\x00\x00\x14" + "\x00\x03\x05\x08\x09\x0a\x0b\x0c\x0d\x0e\x0f\x10\x11\x12\x13\x14\x18\x19\x1c\x1e"},
	} {
		if got, ok := impl.CodeBytes(c.p); !ok || string(got) != c.bytes {
			t.Errorf("%v: %q, %v", c.p, got, ok)
		}
		if got, ok := impl.CodeRead([]byte(c.bytes)); !ok || !sameProgram(got, c.p) {
			t.Errorf("%q: %v, %v", c.bytes, got, ok)
		}
		wantProgram(t, fmt.Sprintf("%q", c.bytes), c.p, true)
	}
}

// A programTurn turns one thing of everyProgram; ok says whether it is ProgramOk then.
type programTurn struct {
	what string
	ok   bool
	do   func(p *impl.Program)
}

// capTurns are of the Caps.
func capTurns() []programTurn {
	var list []programTurn
	for _, c := range []struct {
		caps []int
		ok   bool
	}{
		{nil, true}, {[]int{}, true}, {[]int{0}, true}, {[]int{4}, true}, {[]int{0, 1, 2, 3, 4}, true}, {[]int{1, 3}, true}, {[]int{0, 4}, true},
		{[]int{-1}, false}, {[]int{5}, false}, {[]int{0, 0}, false}, {[]int{4, 4}, false}, {[]int{1, 0}, false}, {[]int{0, 2, 1}, false}, {[]int{0, 1, 2, 3, 4, 4}, false}, {[]int{0, 1, 2, 3, 4, 5}, false}, {[]int{-1, 0, 1}, false}, {[]int{3, 4, 5}, false},
		{[]int{math.MinInt}, false}, {[]int{math.MaxInt}, false}, {[]int{impl.MaxNum}, false}, {make([]int, 100000), false},
	} {
		list = append(list, programTurn{fmt.Sprintf("caps %.60v", c.caps), c.ok, func(p *impl.Program) { p.Caps = c.caps }})
	}
	return list
}

// lowTypes are types over three layouts, and whether they are low ones.
func lowTypes() map[string]struct {
	ty impl.Ty
	ok bool
} {
	type row = struct {
		ty impl.Ty
		ok bool
	}
	return map[string]row{
		"unit": {tyUnit, true}, "text": {tyText, true}, "the last layout": {tyData(2), true}, "a fun of layouts": {tyOf(impl.TyFun, tyData(0), inRef(tyData(1))), true},
		"MaxDepth less one": {refs(impl.MaxDepth-1, tyData(0)), true}, "MaxSize less two": {fieldOf(impl.MaxSize - 2), true},
		"no layout": {tyData(3), false}, "no layout within": {inRef(tyData(3)), false}, "far no layout": {tyData(impl.MaxData - 1), false}, "MaxData": {tyData(impl.MaxData), false}, "below 0": {tyData(-1), false},
		"an Arg": {tyData(0, tyInt), false}, "an Arg within": {tyOf(impl.TyPair, tyInt, tyData(1, tyInt)), false}, "a variable": {tyVar(0), false}, "a variable within": {inRef(tyVar(5)), false},
		"too deep": {refs(impl.MaxDepth+1, tyInt), false}, "too large": {fieldOf(impl.MaxSize + 1), false}, "no kind": {impl.Ty{Kind: 8}, false}, "kind -1": {impl.Ty{Kind: -1}, false}, "unit with N": {impl.Ty{N: 1}, false}, "a ref of nothing": {tyOf(impl.TyRef), false}, "no end": {endlessTy(), false},
	}
}

// typeTurns are of Env, Locals, Arg and Res, in each block.
func typeTurns(blocks int) []programTurn {
	var list []programTurn
	for what, c := range lowTypes() {
		for i := range blocks {
			list = append(list,
				programTurn{fmt.Sprint("Env of ", i, ": ", what), c.ok, func(p *impl.Program) { p.Blocks[i].Env = append(p.Blocks[i].Env, c.ty) }},
				programTurn{fmt.Sprint("Env ahead of ", i, ": ", what), c.ok, func(p *impl.Program) { p.Blocks[i].Env = append([]impl.Ty{c.ty}, p.Blocks[i].Env...) }},
				programTurn{fmt.Sprint("Locals of ", i, ": ", what), c.ok, func(p *impl.Program) { p.Blocks[i].Locals = append(p.Blocks[i].Locals, c.ty) }},
				programTurn{fmt.Sprint("Arg of ", i, ": ", what), c.ok, func(p *impl.Program) { p.Blocks[i].Arg, p.Blocks[i].Res = c.ty, tyInt }},
				programTurn{fmt.Sprint("Res of ", i, ": ", what), c.ok, func(p *impl.Program) { p.Blocks[i].Arg, p.Blocks[i].Res = tyInt, c.ty }})
		}
	}
	for _, c := range []struct {
		what     string
		arg, res impl.Ty
		ok       bool
	}{
		{"a fun of MaxSize", fieldOf(30), fieldOf(29), true}, {"a fun of MaxSize and one", fieldOf(30), fieldOf(30), false}, {"a fun of MaxSize by its Arg", fieldOf(58), tyInt, true}, {"a fun of MaxSize and one by its Arg", fieldOf(59), tyInt, false},
		{"a fun of MaxSize by its Res", tyUnit, fieldOf(58), true}, {"a fun of MaxSize and one by its Res", tyUnit, fieldOf(59), false}, {"an Arg of MaxSize", fieldOf(impl.MaxSize), tyUnit, false}, {"both of MaxSize", fieldOf(impl.MaxSize), fieldOf(impl.MaxSize), false},
		{"a fun of MaxDepth", refs(impl.MaxDepth-1, tyInt), refs(impl.MaxDepth-1, tyInt), true}, {"an Arg of MaxDepth", refs(impl.MaxDepth, tyInt), tyInt, false}, {"a Res of MaxDepth", tyInt, refs(impl.MaxDepth, tyInt), false},
	} {
		for i := range blocks {
			list = append(list, programTurn{fmt.Sprint(c.what, ", block ", i), c.ok, func(p *impl.Program) { p.Blocks[i].Arg, p.Blocks[i].Res = c.arg, c.res }})
		}
	}
	return list
}

// countTurns are of how many there are of something.
func countTurns(blocks int) []programTurn {
	var list []programTurn
	for _, count := range []int{0, 1, 2, impl.MaxBlocks - 1, impl.MaxBlocks, impl.MaxBlocks + 1, 100000} {
		list = append(list, programTurn{fmt.Sprint(count, " blocks"), count >= 1 && count <= impl.MaxBlocks, func(p *impl.Program) { p.Blocks = slices.Repeat([]impl.Block{{Code: units(1)}}, count) }})
	}
	for _, count := range []int{0, 1, impl.MaxHeld - 1, impl.MaxHeld, impl.MaxHeld + 1, 100000} {
		for i := range blocks {
			types := slices.Repeat([]impl.Ty{tyInt}, count)
			list = append(list, programTurn{fmt.Sprint(count, " Env of ", i), count <= impl.MaxHeld, func(p *impl.Program) { p.Blocks[i].Env = types }},
				programTurn{fmt.Sprint(count, " Locals of ", i), count <= impl.MaxHeld, func(p *impl.Program) { p.Blocks[i].Locals = types }},
				programTurn{fmt.Sprint(count, " Env and Locals of ", i), count <= impl.MaxHeld, func(p *impl.Program) { p.Blocks[i].Env, p.Blocks[i].Locals = types, types }})
		}
	}
	for _, count := range []int{0, 1, 127, 128, impl.MaxCode - 1, impl.MaxCode, impl.MaxCode + 1, 100000} {
		for i := range blocks {
			list = append(list, programTurn{fmt.Sprint(count, " code of ", i), count >= 1 && count <= impl.MaxCode, func(p *impl.Program) { p.Blocks[i].Code = units(count) }})
		}
	}
	return list
}

// insTurns put an instruction that is not InsOk ahead of all code, among it and behind it.
func insTurns(blocks int) []programTurn {
	var list []programTurn
	for _, n := range []impl.Ins{
		{Op: -1}, {Op: impl.InForeign + 1}, {Op: 256}, {A: 1}, {Op: impl.InInt, A: mostWhole + 1}, {Op: impl.InInt, A: leastWhole - 1}, {Op: impl.InGet, A: -1}, {Op: impl.InGet, A: impl.MaxNum + 1}, {Op: impl.InCon, B: -1}, {Op: impl.InCase}, {Op: impl.InCase, To: make([]int, impl.MaxCons+1)},
		{Op: impl.InCase, To: []int{-1}}, {Op: impl.InLit, Lit: []byte(strings.Repeat("m", impl.MaxLit+1))}, {Op: impl.InLit, Lit: []byte("\"")}, {Op: impl.InLit, Lit: make([]byte, impl.MaxText+1)}, {Op: impl.InAdd, To: []int{1}}, {Op: impl.InJump, Lit: []byte("x")},
	} {
		for i := range blocks {
			for _, at := range []float64{0, 0.5, 1} {
				list = append(list, programTurn{fmt.Sprintf("%.100v in %d at %v", n, i, at), false, func(p *impl.Program) {
					code := &p.Blocks[i].Code
					*code = slices.Insert(*code, int(at*float64(len(*code))), n)
				}})
			}
		}
	}
	return list
}

func programTurns() []programTurn {
	blocks := len(everyProgram().Blocks)
	list := slices.Concat(capTurns(), typeTurns(blocks), countTurns(blocks), insTurns(blocks))
	list = append(list, programTurn{"nothing", true, func(p *impl.Program) {}}, programTurn{"the zero value", false, func(p *impl.Program) { *p = impl.Program{} }})
	for what, turn := range layoutTurns(everyProgram().Layouts) {
		turned := copyProgram(everyProgram())
		turned.Layouts = turn(turned.Layouts)
		list = append(list, programTurn{"layouts: " + what, rawProgramOk(turned), func(p *impl.Program) { p.Layouts = turn(p.Layouts) }})
	}
	return list
}

// TestProgramsWithOneThingTurned: what the test says of each turn, and its own judge.
func TestProgramsWithOneThingTurned(t *testing.T) {
	taken, refused := 0, 0
	for _, turn := range programTurns() {
		p := copyProgram(everyProgram())
		turn.do(&p)
		wantProgram(t, turn.what, p, turn.ok)
		if !strings.Contains(turn.what, "no end") && len(p.Blocks) < 1000 && rawProgramOk(p) != turn.ok {
			t.Errorf("%s: the test's own judge", turn.what)
		}
		if turn.ok {
			taken++
		} else {
			refused++
		}
	}
	if taken < 200 || refused < 500 {
		t.Errorf("the test's own turns: %d taken, %d refused", taken, refused)
	}
}

// TestLayoutsOfPrograms: as WholeOk says.
func TestLayoutsOfPrograms(t *testing.T) {
	for what, turn := range layoutTurns(everyProgram().Layouts) {
		layouts := turn(copyLayouts(everyProgram().Layouts))
		wantProgram(t, what, impl.Program{Layouts: layouts, Blocks: []impl.Block{{Code: units(1)}}}, impl.WholeOk(impl.Whole{Layouts: layouts}))
	}
	wantProgram(t, "Fields without an end", impl.Program{Layouts: []impl.Layout{{Cons: [][]impl.Ty{{endlessTy()}}}}, Blocks: []impl.Block{{Code: units(1)}}}, false)
	wantProgram(t, "many layouts", impl.Program{Layouts: make([]impl.Layout, 1000000), Blocks: []impl.Block{{Code: units(1)}}}, false)
}

// fullProgram has just so many bytes: blocks of MaxCode units, and one of less.
func fullProgram(size int) impl.Program {
	const around = 6 // of a block: Env, Arg, Res, Locals, and two bytes for how many units
	var p impl.Program
	left := size - len("LK\x00\x00\x00")
	for left > 0 {
		count := min(impl.MaxCode, left-around)
		p.Blocks = append(p.Blocks, impl.Block{Code: units(count)})
		left -= around + count
	}
	return p
}

// TestHowManyBytes: MaxBytes, and one more, by whatever part.
func TestHowManyBytes(t *testing.T) {
	for _, size := range []int{impl.MaxBytes - 1, impl.MaxBytes, impl.MaxBytes + 1, impl.MaxBytes + 100} {
		p := fullProgram(size)
		if len(rawCode(p)) != size {
			t.Fatal("the test's own program:", len(rawCode(p)))
		}
		wantProgram(t, fmt.Sprint(size, " bytes"), p, size <= impl.MaxBytes)
	}
	for what, turn := range map[string]func(p *impl.Program, more bool){
		"an A": func(p *impl.Program, more bool) {
			p.Blocks[3].Code[0] = impl.Ins{Op: impl.InJump, A: map[bool]int{false: 127, true: 128}[more]}
		},
		"an A of InInt": func(p *impl.Program, more bool) {
			p.Blocks[3].Code[0] = impl.Ins{Op: impl.InInt, A: map[bool]int{false: 63, true: 64}[more]}
		},
		"a B": func(p *impl.Program, more bool) {
			p.Blocks[0].Code[9] = impl.Ins{Op: impl.InCon, B: map[bool]int{false: 16383, true: 16384}[more]}
		},
		"a To": func(p *impl.Program, more bool) {
			p.Blocks[0].Code[9] = impl.Ins{Op: impl.InCase, To: map[bool][]int{false: {1}, true: {1, 2}}[more]}
		},
		"a Lit": func(p *impl.Program, more bool) {
			p.Blocks[0].Code[9] = impl.Ins{Op: impl.InLit, Lit: map[bool][]byte{false: []byte("a"), true: []byte("ab")}[more]}
		},
		"a cap": func(p *impl.Program, more bool) { p.Caps = map[bool][]int{false: {1}, true: {1, 2}}[more] },
		"an Env": func(p *impl.Program, more bool) {
			p.Blocks[2].Env = slices.Repeat([]impl.Ty{tyInt}, map[bool]int{false: 1, true: 2}[more])
		},
		"a local": func(p *impl.Program, more bool) {
			p.Blocks[2].Locals = slices.Repeat([]impl.Ty{tyInt}, map[bool]int{false: 1, true: 2}[more])
		},
		"an Arg": func(p *impl.Program, more bool) {
			p.Blocks[2].Arg = map[bool]impl.Ty{false: inRef(tyInt), true: inRef(inRef(tyInt))}[more]
		},
		"a Res": func(p *impl.Program, more bool) {
			p.Blocks[2].Res = map[bool]impl.Ty{false: inRef(tyInt), true: inRef(inRef(tyInt))}[more]
		},
		"a constructor": func(p *impl.Program, more bool) {
			p.Layouts = []impl.Layout{{Cons: make([][]impl.Ty, map[bool]int{false: 1, true: 2}[more])}}
		},
		"a Field": func(p *impl.Program, more bool) {
			p.Layouts = []impl.Layout{{Cons: [][]impl.Ty{slices.Repeat([]impl.Ty{tyInt}, map[bool]int{false: 1, true: 2}[more])}}}
		},
	} {
		// How much it takes is found with a program of some bytes less.
		trial := fullProgram(impl.MaxBytes - 100)
		turn(&trial, false)
		size := 2*(impl.MaxBytes) - 100 - len(rawCode(trial))
		for _, more := range []bool{false, true} {
			p := fullProgram(size)
			turn(&p, more)
			wantProgram(t, fmt.Sprint(what, " ", more), p, !more)
			if len(rawCode(p)) != impl.MaxBytes+map[bool]int{true: 1}[more] {
				t.Fatal("the test's own program:", what, len(rawCode(p)))
			}
		}
	}
	// As many as can be of everything, but for the bytes.
	code := slices.Repeat([]impl.Ins{{Op: impl.InCase, A: impl.MaxNum, To: slices.Repeat([]int{impl.MaxNum}, impl.MaxCons)}}, impl.MaxCode)
	wantProgram(t, "far too many bytes", impl.Program{Blocks: slices.Repeat([]impl.Block{{Code: code}}, impl.MaxBlocks)}, false)
}

func TestCapsOf(t *testing.T) {
	call := func(kinds ...int) impl.Block {
		var b impl.Block
		for _, kind := range kinds {
			b.Code = append(b.Code, impl.Ins{Op: impl.InForeign, A: kind})
		}
		return b
	}
	for _, c := range []struct {
		blocks []impl.Block
		caps   []int
	}{
		{[]impl.Block{{Code: units(1)}}, nil},
		{[]impl.Block{call(0)}, []int{0}}, {[]impl.Block{call(4)}, []int{4}}, {[]impl.Block{call(0, 1, 2, 3, 4)}, []int{0, 1, 2, 3, 4}}, {[]impl.Block{call(4, 3, 2, 1, 0)}, []int{0, 1, 2, 3, 4}},
		{[]impl.Block{call(2, 2, 2)}, []int{2}}, {[]impl.Block{call(3, 1, 3, 1)}, []int{1, 3}}, {[]impl.Block{call(3), call(1), call(3)}, []int{1, 3}}, {[]impl.Block{{Code: units(1)}, call(4, 0), call(1)}, []int{0, 1, 4}},
		// An A above CapPut is none.
		{[]impl.Block{call(5)}, nil}, {[]impl.Block{call(impl.MaxNum)}, nil}, {[]impl.Block{call(5, 4, 6)}, []int{4}}, {[]impl.Block{call(2), call(5), call(0, 100)}, []int{0, 2}},
		// Other ops have an A, too.
		{[]impl.Block{{Code: []impl.Ins{{Op: impl.InJump, A: 1}, {Op: impl.InInt, A: 2}, {Op: impl.InForeign, A: 3}, {Op: impl.InCase, A: 4, To: []int{0}}, {Op: impl.InCon, A: 0, B: 1}}}}, []int{3}},
	} {
		// Whatever Caps says.
		for _, said := range [][]int{nil, {1}, c.caps, {0, 1, 2, 3, 4}} {
			p := impl.Program{Blocks: c.blocks, Caps: said}
			if got := impl.CapsOf(p); !slices.Equal(got, c.caps) {
				t.Errorf("%v: %v", p, got)
			}
			wantProgram(t, fmt.Sprint(p), p, true)
		}
		for what, p := range map[string]impl.Program{
			"Caps": {Blocks: c.blocks, Caps: []int{5}}, "Layouts": {Blocks: c.blocks, Layouts: make([]impl.Layout, 1)}, "an instruction": {Blocks: append(slices.Clone(c.blocks), impl.Block{Code: []impl.Ins{{A: 1}}})}, "a type": {Blocks: append(slices.Clone(c.blocks), impl.Block{Arg: tyVar(0), Code: units(1)})},
			"a fun": {Blocks: append(slices.Clone(c.blocks), impl.Block{Arg: refs(impl.MaxDepth, tyInt), Code: units(1)})}, "no code": {Blocks: append(slices.Clone(c.blocks), impl.Block{})}, "too many bytes": {Blocks: append(fullProgram(impl.MaxBytes).Blocks, c.blocks...)},
		} {
			wantProgram(t, what, p, false)
		}
	}
	if got := impl.CapsOf(impl.Program{}); len(got) > 0 {
		t.Error("the zero value:", got)
	}
}
