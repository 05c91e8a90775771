package tests

import (
	"bytes"
	"encoding/binary"
	"fmt"
	"slices"
	"strings"
	"sync"
	"testing"

	"loop.example/g00293/impl"
)

// A rawDecoder reads whatever was written, in however many bytes; it panics with noCode where there is nothing.
type rawDecoder struct{ left []byte }

type noCode struct{}

func (d *rawDecoder) byte() int {
	if len(d.left) == 0 {
		panic(noCode{})
	}
	b := d.left[0]
	d.left = d.left[1:]
	return int(b)
}

func (d *rawDecoder) num() int {
	n, size := binary.Uvarint(d.left)
	if size <= 0 || n > impl.MaxNum {
		panic(noCode{})
	}
	d.left = d.left[size:]
	return int(n)
}

func rawListOf[T any](d *rawDecoder, one func() T) []T {
	var list []T
	for range d.num() {
		list = append(list, one())
	}
	return list
}

func (d *rawDecoder) ty() impl.Ty { return d.tyWithin(impl.MaxDepth) }

func (d *rawDecoder) tyWithin(depth int) impl.Ty {
	ty := impl.Ty{Kind: d.byte()}
	count := map[int]int{impl.TyPair: 2, impl.TyFun: 2, impl.TyRef: 1}[ty.Kind]
	if ty.Kind == impl.TyVar || ty.Kind == impl.TyData {
		ty.N = d.num()
	}
	if ty.Kind == impl.TyData {
		count = d.num()
	}
	if depth == 0 || count > impl.MaxArgs {
		panic(noCode{})
	}
	for range count {
		ty.Args = append(ty.Args, d.tyWithin(depth-1))
	}
	return ty
}

func (d *rawDecoder) ins() impl.Ins {
	n := impl.Ins{Op: d.byte()}
	for _, letter := range opHas(n.Op) {
		switch letter {
		case 'A':
			n.A = d.num()
		case 'I':
			folded := d.num()
			n.A = folded>>1 ^ -(folded & 1)
		case 'B':
			n.B = d.num()
		case 'T':
			n.To = rawListOf(d, d.num)
		case 'L':
			n.Lit = rawListOf(d, func() byte { return byte(d.byte()) })
		}
	}
	return n
}

func (d *rawDecoder) block() impl.Block {
	env := rawListOf(d, d.ty)
	arg := d.ty()
	res := d.ty()
	locals := rawListOf(d, d.ty)
	return impl.Block{Env: env, Arg: arg, Res: res, Locals: locals, Code: rawListOf(d, d.ins)}
}

// rawRead tells what CodeRead must: what it reads must be a program, and must be written as just these bytes.
func rawRead(b []byte) (p impl.Program, ok bool) {
	defer func() {
		if why := recover(); why != nil {
			if _, isNone := why.(noCode); !isNone {
				panic(why)
			}
			p, ok = impl.Program{}, false
		}
	}()
	d := &rawDecoder{b}
	if d.byte() != 'L' || d.byte() != 'K' {
		return impl.Program{}, false
	}
	p.Layouts = rawListOf(d, func() impl.Layout {
		return impl.Layout{Cons: rawListOf(d, func() []impl.Ty { return rawListOf(d, d.ty) })}
	})
	p.Caps = rawListOf(d, d.num)
	p.Blocks = rawListOf(d, d.block)
	if rawCode(p) != string(b) || !rawProgramOk(p) {
		return impl.Program{}, false
	}
	return p, true
}

// wantReadAsRaw looks for what rawRead tells, and for what the promise says; it answers whether there is a program.
func wantReadAsRaw(t *testing.T, what string, b []byte) bool {
	t.Helper()
	want, wantOk := rawRead(b)
	got, ok := impl.CodeRead(b)
	if ok != wantOk || !sameProgram(got, want) {
		t.Fatalf("%s: %.200q: %v, %.300v, not %v, %.300v", what, b, ok, got, wantOk, want)
	}
	if again, okAgain := impl.CodeBytes(got); ok && (!okAgain || !bytes.Equal(again, b)) {
		t.Fatalf("%s: %.200q: other bytes: %v, %.200q", what, b, okAgain, again)
	}
	return ok
}

// wantNoCode looks for nothing at all.
func wantNoCode(t *testing.T, what string, b []byte) {
	t.Helper()
	if p, ok := impl.CodeRead(b); ok || !isZeroProgram(p) {
		t.Errorf("%s: %.200q: %v, %.300v", what, b, ok, p)
	}
}

// someLow is a low type over so many layouts.
func (w *walk) someLow(depth int, layouts int) impl.Ty {
	if depth <= 1 || w.below(3) == 0 {
		if layouts > 0 && w.below(3) == 0 {
			return tyData(w.below(layouts))
		}
		return tyOf(w.below(3))
	}
	part := func() impl.Ty { return w.someLow(depth-1, layouts) }
	return pick(w, []impl.Ty{tyOf(impl.TyPair, part(), part()), tyOf(impl.TyFun, part(), part()), inRef(part())})
}

func (w *walk) someLows(most int, layouts int) []impl.Ty {
	var list []impl.Ty
	for range w.below(most + 1) {
		list = append(list, w.someLow(1+w.below(4), layouts))
	}
	return list
}

func (w *walk) someNum() int {
	return pick(w, []int{0, 1, 2, 3, w.below(10), w.below(127), 127, 128, w.below(20000), 16383, 16384, w.below(impl.MaxNum), impl.MaxNum})
}

func (w *walk) someIns() impl.Ins {
	n := impl.Ins{Op: w.below(impl.InForeign + 1)}
	for _, letter := range opHas(n.Op) {
		switch letter {
		case 'A':
			n.A = w.someNum()
		case 'I':
			n.A = pick(w, []int{0, 1, -1, w.below(100) - 50, w.below(mostWhole), -w.below(mostWhole), leastWhole, mostWhole})
		case 'B':
			n.B = w.someNum()
		case 'T':
			for range 1 + w.below(impl.MaxCons) {
				n.To = append(n.To, w.someNum())
			}
		case 'L':
			n.Lit = []byte(strings.Repeat(pick(w, []string{"a", " ", "~", "Z", "0"}), w.below(impl.MaxLit+1)))
		}
	}
	return n
}

func (w *walk) someProgram() impl.Program {
	var p impl.Program
	layouts := pick(w, []int{0, 0, 1, 2, 3, w.below(impl.MaxData + 1)})
	for range layouts {
		var layout impl.Layout
		for range 1 + w.below(impl.MaxCons) {
			layout.Cons = append(layout.Cons, w.someLows(impl.MaxFields, layouts))
		}
		p.Layouts = append(p.Layouts, layout)
	}
	for kind := range impl.CapPut + 1 {
		if w.below(2) == 0 {
			p.Caps = append(p.Caps, kind)
		}
	}
	for range 1 + w.below(4) {
		b := impl.Block{Env: w.someLows(4, layouts), Arg: w.someLow(3, layouts), Res: w.someLow(3, layouts), Locals: w.someLows(5, layouts)}
		for range 1 + w.below(12) {
			b.Code = append(b.Code, w.someIns())
		}
		p.Blocks = append(p.Blocks, b)
	}
	return p
}

func TestManyProgramsComeBack(t *testing.T) {
	w := &walk{state: 81}
	seen := map[string]impl.Program{}
	for range 3000 {
		p := w.someProgram()
		wantProgram(t, "a program", p, true)
		// No two programs have the same bytes.
		b, _ := impl.CodeBytes(p)
		if other, ok := seen[string(b)]; ok && !sameProgram(other, p) {
			t.Fatalf("%v and %v: one list of bytes", p, other)
		}
		seen[string(b)] = p
		wantReadAsRaw(t, "its bytes", b)
	}
	if len(seen) < 2000 {
		t.Error("the test's own programs:", len(seen))
	}
}

// readPrograms are small enough to be turned in every place.
func readPrograms() []impl.Program {
	w := &walk{state: 82}
	list := []impl.Program{everyProgram(), oneBlock(impl.Block{Code: units(1)}), oneBlock(impl.Block{Code: units(130)})}
	for range 12 {
		list = append(list, w.someProgram())
	}
	return list
}

func TestBytesThatEndTooEarly(t *testing.T) {
	for i, p := range readPrograms() {
		b, _ := impl.CodeBytes(p)
		for size := range b {
			wantNoCode(t, fmt.Sprint("program ", i, " cut to ", size), b[:size])
			wantNoCode(t, fmt.Sprint("program ", i, " cut to ", size, ", the rest behind it"), b[:size:len(b)])
		}
		for more := range 256 {
			wantNoCode(t, fmt.Sprint("program ", i, " and ", more), append(slices.Clone(b), byte(more)))
		}
		wantNoCode(t, "twice", append(slices.Clone(b), b...))
		wantNoCode(t, "without the first byte", b[1:])
		wantNoCode(t, "a byte ahead", append([]byte{'L'}, b...))
	}
	wantNoCode(t, "nothing", nil)
	wantNoCode(t, "no bytes", []byte{})
	wantNoCode(t, "the mark alone", []byte("LK"))
	for _, text := range []string{"KL", "lk", "Lk", "lK", "LL", "KK", "\x00\x00", " L"} {
		wantNoCode(t, text, []byte(text+"\x00\x00\x01\x00\x00\x00\x00\x01\x00"))
	}
}

// TestBytesWithOneTurned: whatever is told of them is written as just these bytes.
func TestBytesWithOneTurned(t *testing.T) {
	taken, refused := 0, 0
	for i, p := range readPrograms() {
		b, _ := impl.CodeBytes(p)
		for at := range b {
			// The first one has all that a byte may stand for, the second one is short; of the others a few values are enough.
			values := []byte{b[at] - 1, b[at] + 1, b[at] ^ 1, b[at] ^ 128, 0, 1, 2, 3, 6, 22, 31, 32, 127, 128, 255}
			for value := range map[int]int{0: 64, 1: 256}[i] {
				values = append(values, byte(value))
			}
			for _, value := range values {
				turned := slices.Clone(b)
				turned[at] = value
				if wantReadAsRaw(t, "turned", turned) {
					taken++
				} else {
					refused++
				}
			}
		}
	}
	if taken < 10000 || refused < 30000 {
		t.Errorf("the test's own bytes: %d taken, %d refused", taken, refused)
	}
}

// TestBytesWithOneMoreOrLess: anywhere.
func TestBytesWithOneMoreOrLess(t *testing.T) {
	taken := 0
	for i, p := range readPrograms() {
		b, _ := impl.CodeBytes(p)
		for at := range b {
			if wantReadAsRaw(t, fmt.Sprint("program ", i, " without ", at), slices.Delete(slices.Clone(b), at, at+1)) {
				taken++
			}
			for _, value := range []byte{0, 1, 2, 25, 31, 32, 127, 128, 255} {
				if wantReadAsRaw(t, fmt.Sprint("program ", i, " with ", value, " more at ", at), slices.Insert(slices.Clone(b), at, value)) {
					taken++
				}
			}
		}
	}
	if taken == 0 {
		t.Error("the test's own bytes: none is taken")
	}
}

// numbered answers the bytes of p with other bytes in the place of one number.
func numbered(p impl.Program, place int, number []byte) []byte {
	var c rawCoder
	c.program(p)
	at := c.numbers[place]
	return slices.Concat(c.out[:at[0]], number, c.out[at[1]:])
}

// TestNumbersThatTakeMoreBytes: each number of a program, also those of its types, as more bytes than it needs.
func TestNumbersThatTakeMoreBytes(t *testing.T) {
	for i, p := range readPrograms() {
		var c rawCoder
		c.program(p)
		for place, at := range c.numbers {
			number := c.out[at[0]:at[1]]
			for size := len(number) + 1; size <= 7; size++ {
				long := slices.Clone(number)
				long[len(long)-1] |= 128
				for len(long) < size-1 {
					long = append(long, 128)
				}
				wantNoCode(t, fmt.Sprint("program ", i, ", number ", place, " in ", size, " bytes"), numbered(p, place, append(long, 0)))
			}
		}
	}
}

// TestCountsThatSayMore: each number of a program with another one in its place, also far greater ones.
func TestCountsThatSayMore(t *testing.T) {
	for i, p := range readPrograms() {
		var c rawCoder
		c.program(p)
		for place, at := range c.numbers {
			was, _ := binary.Uvarint(c.out[at[0]:at[1]])
			for _, n := range []uint64{was + 1, was + 2, was - 1, 0, 1, 5, 6, 20, 21, 60, 61, 150, 151, 1000, 1001, 30000, impl.MaxNum, impl.MaxNum + 1, 1 << 40, 1 << 62} {
				number := binary.AppendUvarint(nil, n)
				wantReadAsRaw(t, fmt.Sprint("program ", i, ", number ", place, " being ", n), numbered(p, place, number))
			}
		}
	}
	most := string(binary.AppendUvarint(nil, impl.MaxNum))
	for _, head := range []string{"", "\x00", "\x00\x00", "\x01", "\x01\x01", "\x00\x00\x01", "\x00\x00\x01\x00\x00\x00", "\x00\x00\x01\x00\x00\x00\x00", "\x00\x00\x01\x00\x00\x00\x00\x01\x16\x00", "\x00\x00\x01\x00\x00\x00\x00\x01\x02"} {
		wantNoCode(t, "a count of MaxNum", []byte("LK"+head+most))
		wantNoCode(t, "a count of MaxNum and noughts", []byte("LK"+head+most+strings.Repeat("\x00", impl.MaxBytes-len(head)-7)))
		wantNoCode(t, "a count of MaxNum and ones", []byte("LK"+head+most+strings.Repeat("\x01", 1000)))
	}
}

// TestWhatIsReadWholeButIsNoProgram: the bytes of programs that have none.
func TestWhatIsReadWholeButIsNoProgram(t *testing.T) {
	refused := 0
	for _, turn := range programTurns() {
		p := copyProgram(everyProgram())
		turn.do(&p)
		if strings.Contains(turn.what, "no end") {
			continue
		}
		// Of some, such as an N where none is written, the bytes are those of another one.
		b := []byte(rawCode(p))
		if !wantReadAsRaw(t, turn.what, b) {
			refused++
		} else if got, _ := impl.CodeRead(b); sameProgram(got, p) != turn.ok {
			t.Errorf("%s: what is no program is read", turn.what)
		}
	}
	if refused < 450 {
		t.Error("the test's own turns:", refused)
	}
	for what, p := range map[string]impl.Program{
		"no blocks": {}, "a cap above CapPut": {Blocks: []impl.Block{{Code: units(1)}}, Caps: []int{5}}, "caps twice": {Blocks: []impl.Block{{Code: units(1)}}, Caps: []int{3, 3}}, "caps that fall": {Blocks: []impl.Block{{Code: units(1)}}, Caps: []int{3, 1}}, "no code": oneBlock(impl.Block{}),
		"a variable": oneBlock(impl.Block{Arg: tyVar(0), Code: units(1)}), "no layout": oneBlock(impl.Block{Env: []impl.Ty{tyData(0)}, Code: units(1)}), "a layout without constructors": {Layouts: make([]impl.Layout, 1), Blocks: []impl.Block{{Code: units(1)}}},
		"a fun too deep": oneBlock(impl.Block{Res: refs(impl.MaxDepth, tyInt), Code: units(1)}), "op 32": oneBlock(impl.Block{Code: []impl.Ins{{Op: 32}}}), "op 255": oneBlock(impl.Block{Code: []impl.Ins{{Op: 255}}}), "no To": oneBlock(impl.Block{Code: []impl.Ins{{Op: impl.InCase}}}),
		"a Lit of MaxLit and one": oneBlock(impl.Block{Code: []impl.Ins{{Op: impl.InLit, Lit: textOf(impl.MaxLit + 1)}}}), "a Lit of MaxText": oneBlock(impl.Block{Code: []impl.Ins{{Op: impl.InLit, Lit: bytes.Repeat([]byte("a"), impl.MaxText)}}}),
		"a Lit of MaxText and one": oneBlock(impl.Block{Code: []impl.Ins{{Op: impl.InLit, Lit: bytes.Repeat([]byte("a"), impl.MaxText+1)}}}), "a Lit with a mark": oneBlock(impl.Block{Code: []impl.Ins{{Op: impl.InLit, Lit: []byte("\"")}}}),
		"MaxBytes and one": fullProgram(impl.MaxBytes + 1), "far too many bytes": fullProgram(20 * impl.MaxBytes),
	} {
		wantNoCode(t, what, []byte(rawCode(p)))
		wantProgram(t, what, p, false)
	}
	if p, ok := impl.CodeRead([]byte(rawCode(fullProgram(impl.MaxBytes)))); !ok || !sameProgram(p, fullProgram(impl.MaxBytes)) {
		t.Error("MaxBytes are not read")
	}
	for _, size := range []int{impl.MaxBytes + 1, 1000000, 30000000} {
		for _, with := range []byte{0, 1, 128, 255} {
			wantNoCode(t, fmt.Sprint(size, " times ", with), append([]byte("LK"), bytes.Repeat([]byte{with}, size)...))
		}
	}
}

// TestEveryShortCode: all short lists of a few bytes behind the mark.
func TestEveryShortCode(t *testing.T) {
	taken := 0
	for size, choice := range map[int][]byte{0: nil, 1: {0}, 4: {0, 1, 2, 3, 4, 5, 6, 7, 8, 22, 128, 255}, 9: {0, 1, 25, 128}, 10: {0, 1, 2}, 11: {0, 1, 5}} {
		eachBytes(size, choice, func(b []byte) {
			if wantReadAsRaw(t, "short", append([]byte("LK"), b...)) {
				taken++
			}
		})
	}
	if taken < 50 {
		t.Error("the test's own bytes:", taken)
	}
}

// TestManyBytesAgainstTheWords: bytes of programs that are cut, joined and turned in several places.
func TestManyBytesAgainstTheWords(t *testing.T) {
	w := &walk{state: 83}
	taken, refused := 0, 0
	for range 20000 {
		b, _ := impl.CodeBytes(w.someProgram())
		for range 1 + w.below(3) {
			at := w.below(len(b))
			switch w.below(5) {
			case 0:
				b = append(slices.Clone(b[:at]), b[w.below(len(b)):]...)
			case 1:
				b = slices.Insert(slices.Clone(b), at, pick(w, readAlphabet))
			case 2:
				b = slices.Clone(b)
				b[at]++
			default:
				b = slices.Clone(b)
				b[at] = byte(w.below(40))
			}
		}
		if wantReadAsRaw(t, "mixed", b) {
			taken++
		} else {
			refused++
		}
	}
	if taken < 500 || refused < 5000 {
		t.Errorf("the test's own bytes: %d taken, %d refused", taken, refused)
	}
}

// What fills the room behind the lists of programs: none of it may be.
var (
	spareIns   = impl.Ins{Op: 77, A: spareWord}
	spareBlock = impl.Block{Arg: spareTy, Code: []impl.Ins{spareIns}}
)

func roomyIns(n impl.Ins) impl.Ins {
	n.Lit, n.To = roomy(string(n.Lit)), withSpare(n.To, spareWord)
	return n
}

// roomyProgram answers p in memory of its own, with filled room behind each of its lists.
func roomyProgram(p impl.Program) impl.Program {
	blocks := withSpare(p.Blocks, spareBlock)
	for i, b := range blocks {
		b.Env, b.Arg, b.Res, b.Locals, b.Code = roomyTys(b.Env), roomyTy(b.Arg), roomyTy(b.Res), roomyTys(b.Locals), withSpare(b.Code, spareIns)
		for k, n := range b.Code {
			b.Code[k] = roomyIns(n)
		}
		blocks[i] = b
	}
	return impl.Program{Layouts: roomyWhole(impl.Whole{Layouts: p.Layouts}).Layouts, Blocks: blocks, Caps: withSpare(p.Caps, spareWord)}
}

func (r *roll) ins(n impl.Ins) {
	r.text(n.Lit)
	enrol(r, n.To, func(place int) bool { return place == spareWord })
}

func (r *roll) program(p impl.Program) {
	r.whole(impl.Whole{Layouts: p.Layouts})
	enrol(r, p.Caps, func(kind int) bool { return kind == spareWord })
	enrol(r, p.Blocks, func(b impl.Block) bool { return sameBlock(b, spareBlock) })
	for _, b := range p.Blocks {
		r.ty(impl.Ty{Args: b.Env})
		r.ty(impl.Ty{Args: b.Locals})
		r.ty(b.Arg)
		r.ty(b.Res)
		enrol(r, b.Code, func(n impl.Ins) bool { return sameIns(n, spareIns) })
		for _, n := range b.Code {
			r.ins(n)
		}
	}
}

// spoilProgram writes over all that can be reached by p.
func spoilProgram(p impl.Program) {
	spoilWhole(impl.Whole{Layouts: p.Layouts})
	for i, b := range p.Blocks {
		scribbleTy(impl.Ty{Args: b.Env})
		scribbleTy(impl.Ty{Args: b.Locals})
		scribbleTy(b.Arg)
		scribbleTy(b.Res)
		for k, n := range b.Code {
			scribble(n.Lit)
			for at := range n.To {
				n.To[at] = spareWord
			}
			b.Code[k] = spareIns
		}
		p.Blocks[i] = spareBlock
	}
	for i := range p.Caps {
		p.Caps[i] = spareWord
	}
}

// memoryPrograms are such as are ProgramOk, and such as are not.
func memoryPrograms() []impl.Program {
	list := readPrograms()
	for i, turn := range programTurns() {
		if i%7 == 0 && !strings.Contains(turn.what, "no end") && !strings.Contains(turn.what, "00000") {
			p := copyProgram(everyProgram())
			turn.do(&p)
			list = append(list, p)
		}
	}
	return list
}

// TestAskingChangesNoProgram: nothing is written into a program nor behind its lists, and what lies there is not read.
func TestAskingChangesNoProgram(t *testing.T) {
	for i, p := range memoryPrograms() {
		arg := roomyProgram(p)
		ok, caps := impl.ProgramOk(arg), impl.CapsOf(arg)
		b, bytesOk := impl.CodeBytes(arg)
		plain, plainOk := impl.CodeBytes(p)
		if ok != plainOk || bytesOk != plainOk || !bytes.Equal(b, plain) || !slices.Equal(caps, impl.CapsOf(p)) {
			t.Errorf("program %d: what lies behind a list was read", i)
		}
		all := newRoll()
		all.program(arg)
		if all.spoilt || !sameProgram(arg, p) {
			t.Errorf("program %d: an argument was changed", i)
		}
		// What an answer's own room is filled with does not count.
		all.text(b)
		all.text(plain)
		enrol(all, caps, func(int) bool { return true })
		enrol(all, impl.CapsOf(arg), func(int) bool { return true })
		if all.shared {
			t.Errorf("program %d: an answer shares memory", i)
		}
		spoilProgram(arg)
		if !bytes.Equal(b, plain) || !slices.Equal(caps, impl.CapsOf(p)) {
			t.Errorf("program %d: an answer changes with the program", i)
		}
		scribble(b)
		for k := range caps {
			caps[k] = spareWord
		}
		if again, _ := impl.CodeBytes(p); !bytes.Equal(again, plain) || slices.Contains(impl.CapsOf(p), spareWord) {
			t.Errorf("program %d: an answer was kept", i)
		}
	}
	for _, n := range everyIns() {
		arg := roomyIns(n)
		all := newRoll()
		if ok := impl.InsOk(arg); !ok || !sameIns(arg, n) {
			t.Errorf("%v: %v", n, ok)
		}
		if all.ins(arg); all.spoilt {
			t.Errorf("%v: an argument was changed", n)
		}
	}
}

// TestProgramsWhosePartsShare: lists that stand in several places are written as if each had its own.
func TestProgramsWhosePartsShare(t *testing.T) {
	types := []impl.Ty{tyInt, tyOf(impl.TyPair, tyInt, tyText)}
	to, lit := []int{1, 2}, []byte("lit")
	code := []impl.Ins{{Op: impl.InCase, A: 1, To: to}, {Op: impl.InLit, Lit: lit}, {Op: impl.InCase, A: 2, To: to}, {Op: impl.InLit, Lit: lit}}
	cons := [][]impl.Ty{types, types}
	block := impl.Block{Env: types, Locals: types, Arg: types[1], Res: types[1], Code: code}
	p := impl.Program{Layouts: []impl.Layout{{Cons: cons}, {Cons: cons}}, Blocks: []impl.Block{block, block}, Caps: to}
	wantProgram(t, "parts that share", p, true)
	b, _ := impl.CodeBytes(p)
	back, _ := impl.CodeRead(b)
	all := newRoll()
	if all.program(back); all.shared {
		t.Error("what is read shares as what was written")
	}
}

// TestCodeReadHasMemoryOfItsOwn: no two lists of what is read are one, nor the bytes.
func TestCodeReadHasMemoryOfItsOwn(t *testing.T) {
	for i, p := range readPrograms() {
		b, _ := impl.CodeBytes(p)
		arg := roomy(string(b))
		got, ok := impl.CodeRead(arg)
		if !ok || !sameProgram(got, p) {
			t.Errorf("program %d: what lies behind the bytes was read", i)
		}
		wantRoomy(t, fmt.Sprint("program ", i), arg, string(b))
		all := newRoll()
		all.text(arg)
		all.program(got)
		other, _ := impl.CodeRead(arg)
		all.program(other)
		if all.shared {
			t.Errorf("program %d: lists that share memory", i)
		}
		scribble(arg)
		if !sameProgram(got, p) {
			t.Errorf("program %d: the answer changes with the bytes", i)
		}
		spoilProgram(got)
		if again, ok := impl.CodeRead(b); !ok || !sameProgram(again, p) || !sameProgram(other, p) {
			t.Errorf("program %d: an answer was kept", i)
		}
		// Refused bytes stay as they were, too.
		short := roomy(string(b[:len(b)-1]))
		wantNoCode(t, "cut", short)
		wantRoomy(t, fmt.Sprint("program ", i, ", cut"), short, string(b[:len(b)-1]))
	}
}

func TestCodeByManyAtOnce(t *testing.T) {
	programs := memoryPrograms()
	say := func(p impl.Program) string {
		b, ok := impl.CodeBytes(p)
		back, okBack := impl.CodeRead(b)
		return fmt.Sprint(b, ok, okBack, sameProgram(back, p), impl.CapsOf(p))
	}
	var plain []string
	for _, p := range programs {
		plain = append(plain, say(p))
	}
	var all sync.WaitGroup
	wrong := make([]int, 8)
	for worker := range wrong {
		all.Go(func() {
			for i, p := range programs {
				if say(p) != plain[i] {
					wrong[worker]++
				}
			}
		})
	}
	all.Wait()
	if !filled(wrong, 0) {
		t.Error("wrong answers:", wrong)
	}
}
