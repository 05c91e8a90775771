package tests

import (
	"fmt"
	"slices"
	"testing"

	"loop.example/g00293/impl"
)

// memoryEvals are of all kinds of ends, and such as are refused.
func memoryEvals(t *testing.T) []evalTrial {
	var list []evalTrial
	for _, text := range []string{
		`"ab"`, `(print "ab")`, `(let a "ab" (let u (print a) (let v (print (cat a a)) (pair (print a) a))))`, `(cat "ab" "")`, `(pair "ab" (ref "cd"))`, "(let x (draw 5) (put x (add tick (get 3))))", "(fn x x)", `(Cons "ab" (Cons "cd" Nil))`,
		"(raise 7)", `(let u (print "ab") (raise tick))`, `(try (let u (print "ab") (raise (draw 9))) e (put e e))`, `(match (Two 1 "ab") (Two a b (print b)) (_ unit))`,
		`(rec f x (let u (print "ab") (f (add x tick))) (f 1))`, "(rec f x (let u (put x tick) (f (add x 1))) (f 1))", "(rec f x (f x) (f 1))", `(rec f x (cat "ab" (f x)) (f 1))`,
		"(add 1 unit)", "nobody", "(match Nil (_ 1))", "(let c (ref Nil) (let u (write c (Cons 1 (read c))) c))",
	} {
		c := evalTrialOf(t, text)
		list = append(list, c)
		for _, fuel := range []int{-1, 0, 3, 8, impl.MaxEval + 1} {
			c.fuel = fuel
			list = append(list, c)
		}
		c.fuel, c.w = 100, worldOfKeys(2, 1)
		list = append(list, c)
		c.w = fullWorld()
		list = append(list, c)
	}
	for i, s := range typeSources(t) {
		list = append(list, evalTrial{what: fmt.Sprint("source ", i), s: s, w: evalWorld(), fuel: 50})
	}
	for seed := range 150 {
		w := &walk{state: uint64(seed)}
		text := someData + w.someEvalText()
		s, _, _ := impl.Parse([]byte(text))
		list = append(list, evalTrial{what: text, s: s, w: w.runWorld(), fuel: pick(w, []int{400, w.below(60)})})
	}
	return list
}

// wantEvalsOwnMemory looks whether nothing is written into an argument of c nor behind its lists, what lies there is neither read nor
// handed out, and no two lists of what is answered are one, nor one of the arguments'.
func wantEvalsOwnMemory(t *testing.T, c evalTrial) {
	t.Helper()
	plain := copyOutcome(c.eval())
	arg := c
	arg.s, arg.w = roomySource(c.s), roomyWorld(c.w)
	answers := []impl.Outcome{arg.eval(), arg.eval()}
	all := newRoll()
	all.source(arg.s)
	all.world(arg.w)
	if all.spoilt || !sameSource(arg.s, c.s) || !sameWorld(arg.w, c.w) {
		t.Errorf("%s: an argument was changed", c.what)
	}
	for _, got := range answers {
		if !sameOutcome(got, plain) {
			t.Errorf("%s: what lies behind a list was read: %s", c.what, sayOutcome(got))
		}
		if !noSpareBehind(got.World) || slices.Contains(got.Text[:cap(got.Text)], spareByte) {
			t.Errorf("%s: what lies behind a list was handed out", c.what)
		}
		all.outcome(got)
	}
	if all.shared {
		t.Errorf("%s: lists that share memory", c.what)
	}
	spoil(arg.s.Body)
	spoilWorld(arg.w)
	for i, got := range answers {
		if !sameOutcome(got, plain) {
			t.Errorf("%s: the answer changes with an argument, or with another answer", c.what)
		}
		if spoilOutcome(got); i == 0 && !sameOutcome(c.eval(), plain) {
			t.Errorf("%s: an answer was kept", c.what)
		}
	}
}

func TestEvalHasMemoryOfItsOwn(t *testing.T) {
	kinds := map[int]int{}
	for _, c := range memoryEvals(t) {
		wantEvalsOwnMemory(t, c)
		kinds[c.eval().Kind]++
	}
	wantCounted(t, kinds, map[int]int{impl.OutRefused: 50, impl.OutHalt: 50, impl.OutRaise: 20, impl.OutFuel: 50, impl.OutDeep: 2})
}

// TestEvalOfPartsThatShare: a source whose parts, names and literals are one list, and a world of one list with another.
func TestEvalOfPartsThatShare(t *testing.T) {
	text, numbers := []byte("ab"), []int{7, 8, 9}
	name := impl.Expr{Kind: impl.ExVar, Name: text[1:]}
	printed := exNumbered(impl.ExCall, impl.CapPrint, impl.Expr{Kind: impl.ExText, Lit: text})
	kids := []impl.Expr{printed, printed}
	pairs := []impl.Expr{exOf(impl.ExPair, kids...), exOf(impl.ExPair, kids...)}
	drawn := []impl.Expr{exNumbered(impl.ExCall, impl.CapDraw, exInt(100)), exOf(impl.ExPair, name, exOf(impl.ExPair, pairs...))}
	c := evalTrial{what: "parts that share", s: bodyOnly(impl.Expr{Kind: impl.ExLet, Name: text[1:], Kids: drawn}), w: impl.World{Draws: numbers}, fuel: 100}
	got := wantEvalEnd(t, c, impl.OutHalt, 0, "(7, (((), ()), ((), ())))", 16)
	all := newRoll()
	enrol(all, numbers, isSpareWord)
	enrol(all, text, func(byte) bool { return true })
	if all.outcome(got); all.shared || string(text) != "ab" || !slices.Equal(numbers, []int{7, 8, 9}) || len(got.World.Trace) != 5 {
		t.Error("parts that share:", string(text), numbers, sayOutcome(got))
	}
}

func TestEvalKeepsNothing(t *testing.T) {
	turn := 0
	wantNothingKept(t, 155, memoryEvals(t), func(c evalTrial) impl.Outcome {
		if turn++; turn%10 == 0 {
			impl.Infer(c.s)
		}
		return c.eval()
	})
}

func TestEvalByManyAtOnce(t *testing.T) {
	wantSameAtOnce(t, memoryEvals(t), evalTrial.eval)
}
