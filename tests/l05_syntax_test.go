package tests

import (
	"fmt"
	"math"
	"regexp"
	"slices"
	"strconv"
	"strings"
	"testing"

	"loop.example/g00293/impl"
)

var (
	smallForm   = regexp.MustCompile(`\A[a-z][a-z0-9]{0,7}\z`)
	greatForm   = regexp.MustCompile(`\A[A-Z][a-z0-9]{0,7}\z`)
	varForm     = regexp.MustCompile(`\A'[0-9]\z`)
	numberForm  = regexp.MustCompile(`\A(0|-?[1-9][0-9]{0,9})\z`)
	literalForm = regexp.MustCompile(`\A[ -!#-\[\]-~]{0,20}\z`)
)

var allKeyWords = strings.Fields("fn let rec if pair fst snd ref read write match raise try add sub mul less same cat len print tick draw get put data unit int text fun")

const (
	leastWhole = -1073741824
	mostWhole  = 1073741823
)

func rawName(word []byte) bool {
	return smallForm.Match(word) && !slices.Contains(allKeyWords, string(word))
}

func rawGreat(word []byte) bool {
	return greatForm.Match(word)
}

func dataOf(name string, vars int, cons ...impl.Con) impl.Data {
	return impl.Data{Name: []byte(name), Vars: vars, Cons: cons}
}

func conOf(name string, fields ...impl.Ty) impl.Con {
	return impl.Con{Name: []byte(name), Fields: fields}
}

func exOf(kind int, kids ...impl.Expr) impl.Expr {
	return impl.Expr{Kind: kind, Kids: kids}
}

func exInt(n int) impl.Expr {
	return impl.Expr{Kind: impl.ExInt, N: n}
}

func exText(lit string) impl.Expr {
	return impl.Expr{Kind: impl.ExText, Lit: []byte(lit)}
}

func exVar(name string) impl.Expr {
	return exNamed(impl.ExVar, name)
}

func exNamed(kind int, name string, kids ...impl.Expr) impl.Expr {
	return impl.Expr{Kind: kind, Name: []byte(name), Kids: kids}
}

func exRec(name string, arg string, kids ...impl.Expr) impl.Expr {
	return impl.Expr{Kind: impl.ExRec, Name: []byte(name), Arg: []byte(arg), Kids: kids}
}

func exNumbered(kind int, n int, kids ...impl.Expr) impl.Expr {
	return impl.Expr{Kind: kind, N: n, Kids: kids}
}

func exMatch(kid impl.Expr, arms ...impl.Arm) impl.Expr {
	return impl.Expr{Kind: impl.ExMatch, Kids: []impl.Expr{kid}, Arms: arms}
}

// armOf: names are the Vars, with a blank between each two.
func armOf(con string, names string, body impl.Expr) impl.Arm {
	a := impl.Arm{Con: []byte(con), Body: body}
	for _, name := range strings.Fields(names) {
		a.Vars = append(a.Vars, []byte(name))
	}
	return a
}

func bodyOnly(e impl.Expr) impl.Source {
	return impl.Source{Body: e}
}

func datasOnly(datas ...impl.Data) impl.Source {
	return impl.Source{Datas: datas}
}

func sameText(a []byte, b []byte) bool {
	return string(a) == string(b)
}

func sameExpr(a impl.Expr, b impl.Expr) bool {
	return a.Kind == b.Kind && a.N == b.N && sameText(a.Name, b.Name) && sameText(a.Arg, b.Arg) && sameText(a.Lit, b.Lit) &&
		slices.EqualFunc(a.Kids, b.Kids, sameExpr) && slices.EqualFunc(a.Arms, b.Arms, sameArm)
}

func sameArm(a impl.Arm, b impl.Arm) bool {
	return sameText(a.Con, b.Con) && slices.EqualFunc(a.Vars, b.Vars, sameText) && sameExpr(a.Body, b.Body)
}

func sameCon(a impl.Con, b impl.Con) bool {
	return sameText(a.Name, b.Name) && slices.EqualFunc(a.Fields, b.Fields, rawSame)
}

func sameData(a impl.Data, b impl.Data) bool {
	return sameText(a.Name, b.Name) && a.Vars == b.Vars && slices.EqualFunc(a.Cons, b.Cons, sameCon)
}

func sameSource(a impl.Source, b impl.Source) bool {
	return slices.EqualFunc(a.Datas, b.Datas, sameData) && sameExpr(a.Body, b.Body)
}

func isZeroSource(s impl.Source) bool {
	return sameSource(s, impl.Source{})
}

// The raw functions below say of trees with an end what the document's tables say, by rules and words of their own.

func rawParts(e impl.Expr) []impl.Expr {
	parts := slices.Clone(e.Kids)
	for _, a := range e.Arms {
		parts = append(parts, a.Body)
	}
	return parts
}

func rawNodes(e impl.Expr) int {
	count := 1
	for _, part := range rawParts(e) {
		count += rawNodes(part)
	}
	return count
}

func rawDeep(e impl.Expr) int {
	deep := 0
	for _, part := range rawParts(e) {
		deep = max(deep, rawDeep(part))
	}
	return deep + 1
}

// rawRow says what a kind has: how many Kids at least and at most, the last N, and which fields it names.
type rawRow struct {
	least, most int
	lastN       int
	names       string
}

var rawRows = map[int]rawRow{
	impl.ExUnit: {0, 0, 0, ""}, impl.ExInt: {0, 0, 0, "N"}, impl.ExText: {0, 0, 0, "Lit"}, impl.ExVar: {0, 0, 0, "Name"},
	impl.ExFn: {1, 1, 0, "Name"}, impl.ExApp: {2, 2, 0, ""}, impl.ExLet: {2, 2, 0, "Name"}, impl.ExRec: {2, 2, 0, "Name Arg"},
	impl.ExIf: {3, 3, 0, ""}, impl.ExPair: {2, 2, 0, ""}, impl.ExFst: {1, 1, 0, ""}, impl.ExSnd: {1, 1, 0, ""},
	impl.ExRef: {1, 1, 0, ""}, impl.ExRead: {1, 1, 0, ""}, impl.ExWrite: {2, 2, 0, ""}, impl.ExCon: {0, impl.MaxFields, 0, "Great"},
	impl.ExMatch: {1, 1, 0, "Arms"}, impl.ExRaise: {1, 1, 0, ""}, impl.ExTry: {2, 2, 0, "Name"},
	impl.ExOp: {2, 2, impl.OpLen, ""}, impl.ExCall: {1, 1, impl.CapPut, ""},
}

func rawKidsOf(e impl.Expr) (int, int) {
	row := rawRows[e.Kind]
	switch {
	case e.Kind == impl.ExOp && e.N == impl.OpLen:
		return 1, 1
	case e.Kind == impl.ExCall && e.N == impl.CapTick:
		return 0, 0
	case e.Kind == impl.ExCall && e.N == impl.CapPut:
		return 2, 2
	}
	return row.least, row.most
}

// rawTopOk says whether e, its parts aside, is as the table says.
func rawTopOk(e impl.Expr) bool {
	row, known := rawRows[e.Kind]
	least, most := rawKidsOf(e)
	names := func(field string) bool { return slices.Contains(strings.Fields(row.names), field) }
	numberOk := e.N >= 0 && e.N <= row.lastN
	if names("N") {
		numberOk = e.N >= leastWhole && e.N <= mostWhole
	}
	nameOk := names("Name") && rawName(e.Name) || names("Great") && rawGreat(e.Name) || !names("Name") && !names("Great") && len(e.Name) == 0
	argOk := names("Arg") && rawName(e.Arg) && !sameText(e.Arg, e.Name) || !names("Arg") && len(e.Arg) == 0
	litOk := names("Lit") && literalForm.Match(e.Lit) || !names("Lit") && len(e.Lit) == 0
	armsOk := names("Arms") && len(e.Arms) >= 1 && len(e.Arms) <= impl.MaxCons+1 || !names("Arms") && len(e.Arms) == 0
	for _, a := range e.Arms {
		armsOk = armsOk && rawArmOk(a)
	}
	return known && numberOk && nameOk && argOk && litOk && armsOk && len(e.Kids) >= least && len(e.Kids) <= most
}

func rawArmOk(a impl.Arm) bool {
	if len(a.Con) == 0 {
		return len(a.Vars) == 0
	}
	seen := map[string]bool{}
	for _, v := range a.Vars {
		if !rawName(v) || seen[string(v)] {
			return false
		}
		seen[string(v)] = true
	}
	return rawGreat(a.Con) && len(a.Vars) <= impl.MaxFields
}

func rawAllOk(e impl.Expr) bool {
	return rawTopOk(e) && !slices.ContainsFunc(rawParts(e), func(part impl.Expr) bool { return !rawAllOk(part) })
}

func rawExprOk(e impl.Expr) bool {
	return rawAllOk(e) && rawNodes(e) <= impl.MaxNodes && rawDeep(e) <= impl.MaxDeep
}

// rawTwofold: a constructor without Kids that is applied has the text of one with a Kid, as which it is parsed.
func rawTwofold(e impl.Expr) bool {
	return e.Kind == impl.ExApp && e.Kids[0].Kind == impl.ExCon && len(e.Kids[0].Kids) == 0 || slices.ContainsFunc(rawParts(e), rawTwofold)
}

func rawDatasOk(datas []impl.Data) bool {
	names, cons := map[string]bool{}, map[string]bool{}
	for i, d := range datas {
		if names[string(d.Name)] || !rawName(d.Name) || d.Vars < 0 || d.Vars > 2 || len(d.Cons) < 1 || len(d.Cons) > impl.MaxCons {
			return false
		}
		names[string(d.Name)] = true
		for _, c := range d.Cons {
			if cons[string(c.Name)] || !rawGreat(c.Name) || len(c.Fields) > impl.MaxFields {
				return false
			}
			cons[string(c.Name)] = true
			for _, field := range c.Fields {
				if !impl.TyOk(field) || !rawOver(field, datas[:i+1]) {
					return false
				}
			}
		}
	}
	return len(datas) <= impl.MaxDatas
}

func rawOver(t impl.Ty, datas []impl.Data) bool {
	if t.Kind == impl.TyVar && t.N >= datas[len(datas)-1].Vars {
		return false
	}
	if t.Kind == impl.TyData && (t.N >= len(datas) || datas[t.N].Vars != len(t.Args)) {
		return false
	}
	return !slices.ContainsFunc(t.Args, func(arg impl.Ty) bool { return !rawOver(arg, datas) })
}

func rawSourceOk(s impl.Source) bool {
	return rawDatasOk(s.Datas) && rawExprOk(s.Body) && len(rawPrint(s)) <= impl.MaxProgram
}

var rawWords = map[int]string{
	impl.ExFn: "fn", impl.ExLet: "let", impl.ExRec: "rec", impl.ExIf: "if", impl.ExPair: "pair", impl.ExFst: "fst",
	impl.ExSnd: "snd", impl.ExRef: "ref", impl.ExRead: "read", impl.ExWrite: "write", impl.ExMatch: "match",
	impl.ExRaise: "raise", impl.ExTry: "try",
}

var (
	rawOps   = strings.Fields("add sub mul less same cat len")
	rawCalls = strings.Fields("print tick draw get put")
)

func bracket(items ...string) string {
	return "(" + strings.Join(items, " ") + ")"
}

// rawSay takes for granted that e is an expression.
func rawSay(e impl.Expr) string {
	var kids []string
	for _, kid := range e.Kids {
		kids = append(kids, rawSay(kid))
	}
	name, word := string(e.Name), rawWords[e.Kind]
	switch e.Kind {
	case impl.ExUnit:
		return "unit"
	case impl.ExInt:
		return fmt.Sprint(e.N)
	case impl.ExText:
		return `"` + string(e.Lit) + `"`
	case impl.ExVar:
		return name
	case impl.ExApp:
		return bracket(kids...)
	case impl.ExFn, impl.ExLet:
		return bracket(append([]string{word, name}, kids...)...)
	case impl.ExRec:
		return bracket(append([]string{word, name, string(e.Arg)}, kids...)...)
	case impl.ExTry:
		return bracket(word, kids[0], name, kids[1])
	case impl.ExCon:
		if len(kids) == 0 {
			return name
		}
		return bracket(append([]string{name}, kids...)...)
	case impl.ExMatch:
		return bracket(append([]string{word, kids[0]}, rawSayArms(e.Arms)...)...)
	case impl.ExOp:
		word = rawOps[e.N]
	case impl.ExCall:
		word = rawCalls[e.N]
	}
	if len(kids) == 0 {
		return word
	}
	return bracket(append([]string{word}, kids...)...)
}

func rawSayArms(arms []impl.Arm) []string {
	var texts []string
	for _, a := range arms {
		items := []string{string(a.Con)}
		if len(a.Con) == 0 {
			items[0] = "_"
		}
		for _, v := range a.Vars {
			items = append(items, string(v))
		}
		texts = append(texts, bracket(append(items, rawSay(a.Body))...))
	}
	return texts
}

// rawSayTy is rawText with the data's name in the place of its number, and without brackets where it has no Args.
func rawSayTy(t impl.Ty, datas []impl.Data) string {
	if t.Kind != impl.TyData && len(t.Args) == 0 {
		return rawText(t)
	}
	items := []string{[]string{impl.TyPair: "pair", impl.TyFun: "fun", impl.TyRef: "ref", impl.TyData: ""}[t.Kind]}
	if t.Kind == impl.TyData {
		items[0] = string(datas[t.N].Name)
	}
	for _, arg := range t.Args {
		items = append(items, rawSayTy(arg, datas))
	}
	if len(items) == 1 {
		return items[0]
	}
	return bracket(items...)
}

func rawPrint(s impl.Source) string {
	text := ""
	for _, d := range s.Datas {
		items := []string{"data", string(d.Name), fmt.Sprint(d.Vars)}
		for _, c := range d.Cons {
			con := []string{string(c.Name)}
			for _, field := range c.Fields {
				con = append(con, rawSayTy(field, s.Datas))
			}
			items = append(items, bracket(con...))
		}
		text += bracket(items...) + "\n"
	}
	return text + rawSay(s.Body) + "\n"
}

// rawLex takes a text apart by the forms of words; a place that is not -1 is that of the first piece that is none.
func rawLex(text string) ([]impl.Token, int) {
	if len(text) > impl.MaxProgram {
		return nil, 0
	}
	var list []impl.Token
	for at := 0; at < len(text); {
		rest := text[at:]
		piece := rest
		if end := strings.IndexAny(rest, " \n()\""); end >= 0 {
			piece = rest[:max(end, 1)]
		}
		if rest[0] == '"' {
			end := strings.Index(rest[1:], `"`)
			if end < 0 {
				return nil, at
			}
			piece = rest[:end+2]
		}
		if piece != " " && piece != "\n" {
			token, ok := rawToken(piece)
			if !ok {
				return nil, at
			}
			token.At = at
			list = append(list, token)
		}
		at += len(piece)
	}
	return list, -1
}

func rawToken(piece string) (impl.Token, bool) {
	switch {
	case piece == "(":
		return impl.Token{Kind: impl.TokOpen}, true
	case piece == ")":
		return impl.Token{Kind: impl.TokClose}, true
	case piece[0] == '"':
		lit := piece[1 : len(piece)-1]
		return impl.Token{Kind: impl.TokLit, Text: []byte(lit)}, literalForm.MatchString(lit)
	case numberForm.MatchString(piece):
		n, _ := strconv.Atoi(piece)
		return impl.Token{Kind: impl.TokInt, N: n}, n >= leastWhole && n <= mostWhole
	}
	word := smallForm.MatchString(piece) || greatForm.MatchString(piece) || varForm.MatchString(piece) || piece == "_"
	return impl.Token{Kind: impl.TokWord, Text: []byte(piece)}, word
}

func sameToken(a impl.Token, b impl.Token) bool {
	return a.At == b.At && alikeToken(a, b)
}

func alikeToken(a impl.Token, b impl.Token) bool {
	return a.Kind == b.Kind && a.N == b.N && sameText(a.Text, b.Text)
}

func sayTokens(list []impl.Token) string {
	text := ""
	for _, token := range list {
		text += fmt.Sprintf(" %d@%d:%d:%q", token.Kind, token.At, token.N, token.Text)
	}
	return text
}

func TestLimitsOfTheLanguage(t *testing.T) {
	limits := []int{impl.MaxProgram, impl.MaxDatas, impl.MaxCons, impl.MaxFields, impl.MaxNodes, impl.MaxDeep, impl.MaxWord, impl.MaxLit}
	if !slices.Equal(limits, []int{4000, 6, 5, 3, 300, 40, 8, 20}) {
		t.Error("limits:", limits)
	}
	codes := []int{impl.TokOpen, impl.TokClose, impl.TokWord, impl.TokInt, impl.TokLit, impl.ParseWell, impl.ParseLong, impl.ParseByte, impl.ParseForm}
	if !slices.Equal(codes, []int{1, 2, 3, 4, 5, 0, 1, 2, 3}) {
		t.Error("codes:", codes)
	}
}

// goodNames come near to what is none.
func goodNames() []string {
	return []string{"a", "z", "a0", "z9", "abcdefgh", "zzzzzzz9", "a0000000", "fnn", "f", "fun1", "dat", "datax", "intt", "in", "texts", "unit0", "i", "rea", "reads", "letrec", "x"}
}

func badWords() []string {
	return []string{
		"", "abcdefghi", "a12345678", "0", "0a", "9", "_", "_a", "a_", "a-", "-a", "'0", "a'", "a b", " a", "a ", "a\n", "a(", "a\"",
		"`", "{", "a`", "a{", "a/", "a:", "aA", "abcdefgA", "@", "[", "A@", "A[", "A`", "A{", "A/", "A:", "AA", "AbcdefgH", "A_",
		"\x00", "a\x00", "\x7f", "\x80", "a\x80", "A\xff", "\xc3\xa9", "a\xc3\xa9", "A\xc3\xa9", "\u00aa", "a\u0660", "\u212a",
		strings.Repeat("a", 100000), "A" + strings.Repeat("a", 100000),
	}
}

// goodGreats are no names, and goodNames are no great words.
func goodGreats() []string {
	return []string{"A", "Z", "A0", "Z9", "Abcdefgh", "Zzzzzzz9", "Fn", "Data", "Let", "Nil"}
}

func badNames() []string {
	return slices.Concat(badWords(), allKeyWords, goodGreats())
}

func badGreats() []string {
	return slices.Concat(badWords(), allKeyWords, goodNames(), []string{"Abcdefghi"})
}

func oneData(name string, con string) []impl.Data {
	return []impl.Data{dataOf(name, 0, conOf(con))}
}

func withField(vars int, fields ...impl.Ty) []impl.Data {
	return []impl.Data{
		dataOf("none", 0, conOf("None")),
		dataOf("one", 1, conOf("One", tyVar(0))),
		dataOf("two", 2, conOf("Two", tyVar(1), tyVar(0))),
		dataOf("here", vars, conOf("First", tyInt), conOf("Here", fields...), conOf("Last")),
		dataOf("later", 0, conOf("Later")),
	}
}

// manyDatas have one constructor each.
func manyDatas(count int) []impl.Data {
	var datas []impl.Data
	for i := range count {
		datas = append(datas, dataOf(fmt.Sprint("d", i), 0, conOf(fmt.Sprint("D", i))))
	}
	return datas
}

func manyCons(count int) []impl.Data {
	d := dataOf("many", 0)
	for i := range count {
		d.Cons = append(d.Cons, conOf(fmt.Sprint("C", i)))
	}
	return []impl.Data{d}
}

func goodDatas() map[string][]impl.Data {
	cases := map[string][]impl.Data{
		"none":                       {},
		"nil":                        nil,
		"MaxDatas":                   manyDatas(impl.MaxDatas),
		"one constructor":            manyCons(1),
		"MaxCons":                    manyCons(impl.MaxCons),
		"MaxFields":                  withField(0, tyInt, tyText, tyUnit),
		"no Fields":                  withField(0),
		"Vars 0":                     withField(0, tyInt),
		"Vars 1":                     withField(1, tyVar(0)),
		"Vars 1, not asked for":      withField(1, tyInt),
		"Vars 2":                     withField(2, tyVar(1), tyVar(0)),
		"Vars 2, within":             withField(2, tyOf(impl.TyFun, tyOf(impl.TyRef, tyVar(1)), tyVar(0))),
		"itself":                     withField(0, tyData(3)),
		"itself with an Arg":         withField(1, tyData(3, tyVar(0))),
		"itself with another Arg":    withField(1, tyData(3, tyInt)),
		"itself within itself":       withField(1, tyData(3, tyData(3, tyData(3, tyVar(0))))),
		"itself with two":            withField(2, tyData(3, tyVar(1), tyData(3, tyInt, tyVar(0)))),
		"earlier ones":               withField(0, tyData(0), tyData(1, tyData(0)), tyData(2, tyInt, tyData(1, tyText))),
		"the deepest field":          withField(1, refs(impl.MaxDepth, tyVar(0))),
		"the largest field":          withField(0, fieldOf(impl.MaxSize)),
		"three of the largest":       withField(0, fieldOf(impl.MaxSize), fieldOf(impl.MaxSize), fieldOf(impl.MaxSize-1)),
		"a name as a constructor's":  {dataOf("abc", 0, conOf("Abc"))},
		"names that begin alike":     {dataOf("ab", 0, conOf("Ab")), dataOf("abc", 0, conOf("Abc")), dataOf("a", 0, conOf("A"))},
		"a field of each word":       withField(0, tyOf(impl.TyPair, tyUnit, tyText), tyOf(impl.TyFun, tyInt, tyInt), tyOf(impl.TyRef, tyUnit)),
		"constructors in two datas":  {dataOf("a", 0, conOf("A1"), conOf("A2")), dataOf("b", 0, conOf("B1"), conOf("B2"))},
		"variable 0 in two datas":    {dataOf("a", 1, conOf("A", tyVar(0))), dataOf("b", 1, conOf("B", tyData(0, tyVar(0))))},
		"more Vars in the later one": {dataOf("a", 0, conOf("A")), dataOf("b", 2, conOf("B", tyVar(1)))},
	}
	for _, name := range goodNames() {
		cases["the name "+name] = oneData(name, "C")
	}
	for _, name := range goodGreats() {
		cases["the constructor "+name] = oneData("d", name)
	}
	return cases
}

// fieldOf answers a type of that size that names no data and no variable.
func fieldOf(size int) impl.Ty {
	switch size {
	case 1:
		return tyInt
	case 2:
		return tyOf(impl.TyRef, tyText)
	}
	left := (size - 1) / 2
	return tyOf(impl.TyPair, fieldOf(left), fieldOf(size-1-left))
}

// badDatas miss what DatasOk says by one.
func badDatas() map[string][]impl.Data {
	cases := map[string][]impl.Data{
		"one above MaxDatas":            manyDatas(impl.MaxDatas + 1),
		"far above MaxDatas":            make([]impl.Data, 1000000),
		"no constructor":                manyCons(0),
		"one above MaxCons":             manyCons(impl.MaxCons + 1),
		"far above MaxCons":             {dataOf("a", 0, make([]impl.Con, 1000000)...)},
		"one above MaxFields":           withField(0, tyInt, tyInt, tyInt, tyInt),
		"far above MaxFields":           withField(0, make([]impl.Ty, 1000000)...),
		"Vars -1":                       withField(-1, tyInt),
		"Vars 3":                        withField(3, tyInt),
		"Vars 3, all asked for":         withField(3, tyVar(0), tyVar(1), tyVar(2)),
		"Vars at the low end":           withField(math.MinInt),
		"Vars at the high end":          withField(math.MaxInt),
		"variable 0 of Vars 0":          withField(0, tyVar(0)),
		"variable 1 of Vars 1":          withField(1, tyVar(0), tyVar(1)),
		"variable 2 of Vars 2":          withField(2, tyVar(0), tyVar(1), tyVar(2)),
		"variable 1 of 1, within":       withField(1, tyOf(impl.TyPair, tyInt, tyData(1, tyOf(impl.TyRef, tyVar(1))))),
		"a data that comes later":       withField(0, tyData(4)),
		"a data later, within":          withField(0, tyOf(impl.TyRef, tyData(1, tyData(4)))),
		"a data that never comes":       withField(0, tyData(5)),
		"the last data there may be":    withField(0, tyData(impl.MaxData-1)),
		"itself with an Arg too many":   withField(0, tyData(3, tyInt)),
		"itself with an Arg too few":    withField(1, tyData(3)),
		"itself with one of two":        withField(2, tyData(3, tyInt)),
		"itself with three of two":      withField(2, tyData(3, tyInt, tyInt, tyInt)),
		"earlier, an Arg too many":      withField(0, tyData(0, tyInt)),
		"earlier, an Arg too few":       withField(0, tyData(1)),
		"earlier, two of one":           withField(0, tyData(1, tyInt, tyInt)),
		"earlier, one of two":           withField(0, tyData(2, tyInt)),
		"earlier, three of two":         withField(0, tyData(2, tyInt, tyInt, tyInt)),
		"earlier, too few, within":      withField(0, tyInt, tyOf(impl.TyFun, tyInt, tyData(1, tyData(2, tyInt)))),
		"wrong in the last field":       withField(0, tyInt, tyInt, tyVar(0)),
		"a field too deep":              withField(0, refs(impl.MaxDepth+1, tyInt)),
		"a field too large":             withField(0, fieldOf(impl.MaxSize+1)),
		"a field without an end":        withField(0, endlessTy()),
		"the first name twice":          append(manyDatas(5), dataOf("d0", 0, conOf("C"))),
		"the name ahead twice":          append(manyDatas(5), dataOf("d4", 0, conOf("C"))),
		"a constructor twice in one":    {dataOf("a", 0, conOf("A"), conOf("B"), conOf("A"))},
		"a constructor right behind":    {dataOf("a", 0, conOf("A"), conOf("A"))},
		"a constructor of the first":    append(manyDatas(5), dataOf("a", 0, conOf("A"), conOf("D0"))),
		"a constructor of one ahead":    append(manyDatas(5), dataOf("a", 0, conOf("D4"))),
		"the last is wrong":             append(manyDatas(5), dataOf("a", 0)),
		"the first is wrong":            append([]impl.Data{dataOf("a", 0)}, manyDatas(5)...),
		"a zero value":                  {{}},
		"a constructor of a zero value": {dataOf("a", 0, impl.Con{})},
	}
	for i, name := range badNames() {
		cases[fmt.Sprintf("bad name %d: %.20q", i, name)] = oneData(name, "C")
	}
	for i, name := range badGreats() {
		cases[fmt.Sprintf("bad constructor %d: %.20q", i, name)] = oneData("d", name)
	}
	for _, c := range noTop() {
		cases["a field that is no type: "+c.name] = withField(0, c.ty)
		cases["within a field: "+c.name] = withField(0, tyInt, tyOf(impl.TyRef, c.ty))
	}
	return cases
}

func endlessTy() impl.Ty {
	args := make([]impl.Ty, 1)
	args[0] = tyOf(impl.TyRef, args...)
	args[0].Args = args
	return args[0]
}

func TestDatasOkTakesDatas(t *testing.T) {
	for what, datas := range goodDatas() {
		if !impl.DatasOk(datas) || !impl.SourceOk(impl.Source{Datas: datas}) {
			t.Errorf("%s: refused", what)
		}
	}
}

func TestDatasOkRefusesAllElse(t *testing.T) {
	for what, datas := range badDatas() {
		text, ok := impl.Print(impl.Source{Datas: datas})
		if impl.DatasOk(datas) || impl.SourceOk(impl.Source{Datas: datas}) || ok || len(text) > 0 {
			t.Errorf("%s: taken", what)
		}
	}
}

// A samplePart has the text of the table's row.
type samplePart struct {
	text string
	e    impl.Expr
}

// samples are of all kinds, each in all its ways.
func samples() []samplePart {
	x, one, lit, nil0 := exVar("x"), exInt(1), exText("a b"), exNamed(impl.ExCon, "Nil")
	list := []samplePart{
		{"unit", impl.Expr{}},
		{"0", exInt(0)},
		{"7", exInt(7)},
		{"-5", exInt(-5)},
		{"1073741823", exInt(mostWhole)},
		{"-1073741824", exInt(leastWhole)},
		{`""`, exText("")},
		{`"a b"`, lit},
		{`"(fn x) 'Z_~"`, exText("(fn x) 'Z_~")},
		{"x", x},
		{"abcdefgh", exVar("abcdefgh")},
		{"(fn x 1)", exNamed(impl.ExFn, "x", one)},
		{"(x 1)", exOf(impl.ExApp, x, one)},
		{"(1 x)", exOf(impl.ExApp, one, x)},
		{`("fn" x)`, exOf(impl.ExApp, exText("fn"), x)},
		{`("data" "A")`, exOf(impl.ExApp, exText("data"), exText("A"))},
		{"(unit x)", exOf(impl.ExApp, impl.Expr{}, x)},
		{"(tick unit)", exOf(impl.ExApp, exNumbered(impl.ExCall, impl.CapTick), impl.Expr{})},
		{"((x 1) (1 x))", exOf(impl.ExApp, exOf(impl.ExApp, x, one), exOf(impl.ExApp, one, x))},
		{"((Nil 1) Nil)", exOf(impl.ExApp, exNamed(impl.ExCon, "Nil", one), nil0)},
		{"(x Nil)", exOf(impl.ExApp, x, nil0)},
		{"(let x 1 x)", exNamed(impl.ExLet, "x", one, x)},
		{"(rec f x (f x) f)", exRec("f", "x", exOf(impl.ExApp, exVar("f"), x), exVar("f"))},
		{"(if x 1 unit)", exOf(impl.ExIf, x, one, impl.Expr{})},
		{"(pair x 1)", exOf(impl.ExPair, x, one)},
		{"(fst x)", exOf(impl.ExFst, x)},
		{"(snd x)", exOf(impl.ExSnd, x)},
		{"(ref x)", exOf(impl.ExRef, x)},
		{"(read x)", exOf(impl.ExRead, x)},
		{"(write x 1)", exOf(impl.ExWrite, x, one)},
		{"Nil", nil0},
		{"(Some 1)", exNamed(impl.ExCon, "Some", one)},
		{"(Some Nil)", exNamed(impl.ExCon, "Some", nil0)},
		{"(Cons x Nil)", exNamed(impl.ExCon, "Cons", x, nil0)},
		{`(T3 x 1 "a b")`, exNamed(impl.ExCon, "T3", x, one, lit)},
		{"(raise 1)", exOf(impl.ExRaise, one)},
		{"(try x e 1)", exNamed(impl.ExTry, "e", x, one)},
		{"(print x)", exNumbered(impl.ExCall, impl.CapPrint, x)},
		{"tick", exNumbered(impl.ExCall, impl.CapTick)},
		{"(draw 1)", exNumbered(impl.ExCall, impl.CapDraw, one)},
		{"(get 1)", exNumbered(impl.ExCall, impl.CapGet, one)},
		{"(put 1 x)", exNumbered(impl.ExCall, impl.CapPut, one, x)},
		{"(len x)", exNumbered(impl.ExOp, impl.OpLen, x)},
	}
	for n, word := range rawOps[:impl.OpLen] {
		list = append(list, samplePart{"(" + word + " x 1)", exNumbered(impl.ExOp, n, x, one)})
	}
	return append(list, sampleMatches()...)
}

func sampleMatches() []samplePart {
	x, one := exVar("x"), exInt(1)
	arm := armOf("A", "", one)
	return []samplePart{
		{"(match x (_ 1))", exMatch(x, armOf("", "", one))},
		{"(match x (_ x))", exMatch(x, armOf("", "", x))},
		{"(match x (A 1))", exMatch(x, arm)},
		{"(match x (A x))", exMatch(x, armOf("A", "", x))},
		{"(match x (A x 1))", exMatch(x, armOf("A", "x", one))},
		{"(match x (A x x))", exMatch(x, armOf("A", "x", x))},
		{"(match x (A a b x))", exMatch(x, armOf("A", "a b", x))},
		{"(match x (A a b c 1))", exMatch(x, armOf("A", "a b c", one))},
		{"(match x (A a b c c))", exMatch(x, armOf("A", "a b c", exVar("c")))},
		{"(match x (A a b c d))", exMatch(x, armOf("A", "a b c", exVar("d")))},
		{"(match x (A a (a x)))", exMatch(x, armOf("A", "a", exOf(impl.ExApp, exVar("a"), x)))},
		{"(match x (A a Nil))", exMatch(x, armOf("A", "a", exNamed(impl.ExCon, "Nil")))},
		{"(match x (A a unit) (A tick))", exMatch(x, armOf("A", "a", impl.Expr{}), armOf("A", "", exNumbered(impl.ExCall, impl.CapTick)))},
		{"(match x (_ 1) (B a 1) (_ x))", exMatch(x, armOf("", "", one), armOf("B", "a", one), armOf("", "", x))},
		{"(match x (A 1) (A 1) (A 1) (A 1) (A 1) (A 1))", exMatch(x, arm, arm, arm, arm, arm, arm)},
		{"(match (match x (A 1)) (B (match x (_ x))))", exMatch(exMatch(x, arm), armOf("B", "", exMatch(x, armOf("", "", x))))},
	}
}

// wantSource looks for s with just this text, which comes back.
func wantSource(t *testing.T, s impl.Source, text string) {
	t.Helper()
	wantPrinted(t, s, text)
	wantParsed(t, text, s)
}

func wantPrinted(t *testing.T, s impl.Source, text string) {
	t.Helper()
	got, ok := impl.Print(s)
	if !ok || !impl.SourceOk(s) || string(got) != text {
		t.Errorf("%s: printed as %s, %v", text, got, ok)
	}
}

// plainer is e with each constructor without Kids that is applied as what its text is parsed as: one with a Kid.
func plainer(e impl.Expr) impl.Expr {
	twofold := e.Kind == impl.ExApp && e.Kids[0].Kind == impl.ExCon && len(e.Kids[0].Kids) == 0
	e.Kids, e.Arms = slices.Clone(e.Kids), slices.Clone(e.Arms)
	for i := range e.Kids {
		e.Kids[i] = plainer(e.Kids[i])
	}
	for i := range e.Arms {
		e.Arms[i].Body = plainer(e.Arms[i].Body)
	}
	if twofold {
		return exNamed(impl.ExCon, string(e.Kids[0].Name), e.Kids[1])
	}
	return e
}

// wantTwofold looks for s with just this text, which is parsed as a plainer source of the same text.
func wantTwofold(t *testing.T, s impl.Source, text string) {
	t.Helper()
	wantPrinted(t, s, text)
	if impl.Nodes(s.Body) != rawNodes(s.Body) {
		t.Errorf("%s: %d parts", text, impl.Nodes(s.Body))
	}
	wantSource(t, impl.Source{Datas: s.Datas, Body: plainer(s.Body)}, text)
}

func wantParsed(t *testing.T, text string, s impl.Source) {
	t.Helper()
	got, code, at := impl.Parse([]byte(text))
	if code != impl.ParseWell || at != 0 || !sameSource(got, s) {
		t.Errorf("%.300s: parsed with %d at %d as %v", text, code, at, got)
	}
}

// wantNoExpr looks for e to be refused as a body, and as each part of some others.
func wantNoExpr(t *testing.T, what string, e impl.Expr) {
	t.Helper()
	for i, whole := range []impl.Expr{e, exOf(impl.ExRef, e), exOf(impl.ExIf, exInt(1), exInt(1), e), exMatch(exInt(1), armOf("A", "", exInt(1)), armOf("A", "a", e))} {
		text, ok := impl.Print(bodyOnly(whole))
		if impl.SourceOk(bodyOnly(whole)) || impl.Nodes(whole) != 0 || ok || len(text) > 0 {
			t.Errorf("%s, within %d: taken", what, i)
		}
	}
}

func wantExpr(t *testing.T, what string, e impl.Expr) {
	t.Helper()
	if got := impl.Nodes(e); got != rawNodes(e) || !impl.SourceOk(bodyOnly(e)) {
		t.Errorf("%s: refused, %d parts", what, got)
	}
}

func TestEveryKindHasItsText(t *testing.T) {
	seen := map[[2]int]bool{}
	for _, c := range samples() {
		wantSource(t, bodyOnly(c.e), c.text+"\n")
		wantParsed(t, c.text, bodyOnly(c.e))
		if impl.Nodes(c.e) != rawNodes(c.e) {
			t.Errorf("%s: %d parts", c.text, impl.Nodes(c.e))
		}
		seen[[2]int{c.e.Kind, c.e.N * (c.e.Kind / impl.ExOp)}] = true
	}
	if len(seen) != 31 {
		t.Errorf("the test's own samples: %d kinds", len(seen))
	}
}

func TestEveryKindWithinEveryOther(t *testing.T) {
	for _, outer := range samples() {
		for _, inner := range samples() {
			for i := range outer.e.Kids {
				e := outer.e
				e.Kids = slices.Clone(e.Kids)
				e.Kids[i] = inner.e
				if rawTwofold(e) {
					wantTwofold(t, bodyOnly(e), rawPrint(bodyOnly(e)))
				} else {
					wantSource(t, bodyOnly(e), rawPrint(bodyOnly(e)))
				}
			}
			for i := range outer.e.Arms {
				e := outer.e
				e.Arms = slices.Clone(e.Arms)
				e.Arms[i].Body = inner.e
				wantSource(t, bodyOnly(e), rawPrint(bodyOnly(e)))
			}
		}
	}
}

func TestKidsTooFewAndTooMany(t *testing.T) {
	many := make([]impl.Expr, 100000)
	for _, c := range samples() {
		least, most := rawKidsOf(c.e)
		for count := range 8 {
			e := c.e
			e.Kids = slices.Repeat([]impl.Expr{exInt(3)}, count)
			if count >= least && count <= most {
				wantExpr(t, fmt.Sprint(c.text, " with ", count), e)
			} else {
				wantNoExpr(t, fmt.Sprint(c.text, " with ", count), e)
			}
		}
		e := c.e
		e.Kids = many
		wantNoExpr(t, c.text+" with very many", e)
	}
}

// changed are e with one field each put to another value.
func changed(e impl.Expr) map[string]impl.Expr {
	cases := map[string]impl.Expr{}
	for _, n := range []int{-1, 0, 1, 4, 5, 6, 7, 8, 20, -5, leastWhole - 1, leastWhole, mostWhole, mostWhole + 1, math.MinInt, math.MaxInt} {
		other := e
		other.N = n
		cases[fmt.Sprint("N ", n)] = other
	}
	for i, word := range slices.Concat(badWords(), goodNames(), goodGreats(), []string{"fn", "data", "tick", "unit", "x", "f", "a b c"}) {
		other := e
		other.Name = []byte(word)
		cases[fmt.Sprintf("Name %d %.20q", i, word)] = other
		other = e
		other.Arg = []byte(word)
		cases[fmt.Sprintf("Arg %d %.20q", i, word)] = other
		other = e
		other.Lit = []byte(word)
		cases[fmt.Sprintf("Lit %d %.20q", i, word)] = other
	}
	for _, arms := range [][]impl.Arm{nil, {}, {armOf("A", "", exInt(1))}, {armOf("", "", exInt(1))}, {{}}} {
		other := e
		other.Arms = arms
		cases[fmt.Sprint("Arms ", len(arms), len(cases))] = other
	}
	for _, kind := range []int{-1, 21, 22, 255, 256, math.MinInt, math.MaxInt} {
		other := e
		other.Kind = kind
		cases[fmt.Sprint("Kind ", kind)] = other
	}
	return cases
}

func TestFieldsThatAKindDoesNotName(t *testing.T) {
	taken, refused := 0, 0
	for _, c := range samples() {
		for what, e := range changed(c.e) {
			if rawTopOk(e) {
				wantExpr(t, c.text+" with "+what, e)
				taken++
			} else {
				wantNoExpr(t, c.text+" with "+what, e)
				refused++
			}
		}
	}
	if taken < 500 || refused < 5000 {
		t.Errorf("the test's own changes: %d taken, %d refused", taken, refused)
	}
}

func TestEveryKindAsAnother(t *testing.T) {
	for _, c := range samples() {
		for kind := impl.ExUnit; kind <= impl.ExCall; kind++ {
			e := c.e
			e.Kind = kind
			if rawAllOk(e) {
				wantExpr(t, fmt.Sprint(c.text, " as ", kind), e)
			} else {
				wantNoExpr(t, fmt.Sprint(c.text, " as ", kind), e)
			}
		}
	}
}

func TestNamesOfExpressions(t *testing.T) {
	for _, name := range goodNames() {
		wantExpr(t, name, exVar(name))
		wantExpr(t, name, exNamed(impl.ExFn, name, exInt(1)))
		wantExpr(t, name, exRec("y", name, exInt(1), exInt(1)))
		wantExpr(t, name, exRec(name, "y", exInt(1), exInt(1)))
		wantNoExpr(t, name, exRec(name, name, exInt(1), exInt(1)))
		wantSource(t, bodyOnly(exVar(name)), name+"\n")
	}
	for _, name := range badNames() {
		what := fmt.Sprintf("%.20q", name)
		for _, kind := range []int{impl.ExVar, impl.ExFn, impl.ExLet, impl.ExTry} {
			least, _ := rawKidsOf(exOf(kind))
			wantNoExpr(t, what, exNamed(kind, name, make([]impl.Expr, least)...))
		}
		wantNoExpr(t, what, exRec(name, "y", exInt(1), exInt(1)))
		wantNoExpr(t, what, exRec("y", name, exInt(1), exInt(1)))
		wantNoExpr(t, what, exMatch(exInt(1), impl.Arm{Con: []byte("A"), Vars: [][]byte{[]byte(name)}}))
	}
	for _, name := range badGreats() {
		wantNoExpr(t, fmt.Sprintf("%.20q", name), exNamed(impl.ExCon, name))
		if name != "" {
			wantNoExpr(t, fmt.Sprintf("%.20q", name), exMatch(exInt(1), armOf(name, "", exInt(1))))
		}
	}
}

func TestLiterals(t *testing.T) {
	for b := range 256 {
		for _, lit := range []string{string([]byte{byte(b)}), string([]byte{'a', byte(b), 'a'})} {
			ok := b >= 32 && b <= 126 && b != '"' && b != '\\'
			if ok {
				wantSource(t, bodyOnly(exText(lit)), `"`+lit+"\"\n")
			} else {
				wantNoExpr(t, fmt.Sprintf("%q", lit), exText(lit))
			}
		}
	}
	wantSource(t, bodyOnly(exText(strings.Repeat("a", impl.MaxLit))), `"`+strings.Repeat("a", impl.MaxLit)+"\"\n")
	wantNoExpr(t, "one above MaxLit", exText(strings.Repeat("a", impl.MaxLit+1)))
	wantNoExpr(t, "far above MaxLit", exText(strings.Repeat("a", 1000000)))
}

func TestArms(t *testing.T) {
	good := []impl.Arm{
		armOf("A", "", exInt(1)), armOf("A", "a", exInt(1)), armOf("A", "a b c", exVar("a")), armOf("Abcdefgh", "abcdefgh", exInt(1)),
		armOf("", "", exInt(1)), armOf("", "", exVar("a")), {},
	}
	bad := []impl.Arm{
		armOf("A", "a b c d", exInt(1)), armOf("A", "a a", exInt(1)), armOf("A", "a b a", exInt(1)), armOf("A", "a b b", exInt(1)),
		armOf("A", "a fn", exInt(1)), armOf("A", "A", exInt(1)), armOf("A", "_", exInt(1)), armOf("A", "a '0", exInt(1)), armOf("A", "abcdefghi", exInt(1)),
		armOf("", "a", exInt(1)), armOf("", "a b", exInt(1)), armOf("_", "", exInt(1)), armOf("a", "", exInt(1)), armOf("fn", "", exInt(1)),
		armOf("Abcdefghi", "", exInt(1)), armOf("A", "a", exOf(impl.ExFst)), armOf("", "", exInt(mostWhole+1)),
		{Con: []byte("A"), Vars: [][]byte{nil}}, {Con: []byte("A"), Vars: make([][]byte, 1000000)}, {Vars: [][]byte{nil}}, {Con: make([]byte, 1000000)},
	}
	for i, a := range good {
		wantExpr(t, fmt.Sprint("good arm ", i), exMatch(exInt(1), a))
		wantExpr(t, fmt.Sprint("good arm behind ", i), exMatch(exInt(1), good[0], a, a))
	}
	for i, a := range bad {
		wantNoExpr(t, fmt.Sprint("bad arm ", i), exMatch(exInt(1), a))
		wantNoExpr(t, fmt.Sprint("bad arm behind ", i), exMatch(exInt(1), good[0], a))
		wantNoExpr(t, fmt.Sprint("bad arm ahead ", i), exMatch(exInt(1), a, good[0]))
	}
	wantNoExpr(t, "no arms", exMatch(exInt(1)))
	for count := 1; count <= impl.MaxCons+1; count++ {
		wantExpr(t, fmt.Sprint(count, " arms"), exMatch(exInt(1), slices.Repeat(good[:1], count)...))
	}
	wantNoExpr(t, "one arm too many", exMatch(exInt(1), slices.Repeat(good[:1], impl.MaxCons+2)...))
	wantNoExpr(t, "very many arms", exMatch(exInt(1), make([]impl.Arm, 100000)...))
}

// bulk has just so many parts, and as little depth as can be with pairs.
func bulk(parts int) impl.Expr {
	switch parts {
	case 1:
		return exInt(1)
	case 2:
		return exOf(impl.ExFst, exInt(1))
	}
	left := (parts - 1) / 2
	return exOf(impl.ExPair, bulk(left), bulk(parts-1-left))
}

func TestHowManyParts(t *testing.T) {
	for parts := 1; parts <= impl.MaxNodes; parts++ {
		if impl.Nodes(bulk(parts)) != parts || !impl.SourceOk(bodyOnly(bulk(parts))) {
			t.Errorf("%d parts: %d", parts, impl.Nodes(bulk(parts)))
		}
	}
	for _, e := range []impl.Expr{
		bulk(impl.MaxNodes + 1), bulk(impl.MaxNodes + 2), bulk(3000),
		exOf(impl.ExFst, bulk(impl.MaxNodes)), exOf(impl.ExPair, bulk(impl.MaxNodes-1), exInt(1)), exOf(impl.ExPair, exInt(1), bulk(impl.MaxNodes-1)),
		exMatch(exInt(1), armOf("A", "", bulk(impl.MaxNodes-1))), exMatch(exInt(1), armOf("A", "", bulk(200)), armOf("", "", bulk(99))),
		exMatch(bulk(200), armOf("A", "", exInt(1)), armOf("", "", bulk(99))),
	} {
		wantNoExpr(t, fmt.Sprint(rawNodes(e), " parts"), e)
	}
	for _, e := range []impl.Expr{
		exOf(impl.ExFst, bulk(impl.MaxNodes-1)), exOf(impl.ExPair, bulk(impl.MaxNodes-2), exInt(1)),
		exMatch(exInt(1), armOf("A", "", bulk(200)), armOf("", "", bulk(98))), exMatch(bulk(200), armOf("A", "", exInt(1)), armOf("", "", bulk(98))),
	} {
		wantExpr(t, fmt.Sprint(rawNodes(e), " parts"), e)
	}
}

// deeper are all ways to stand one deeper: as each Kid and as each arm's body of all samples.
func deeper() []func(impl.Expr) impl.Expr {
	var ways []func(impl.Expr) impl.Expr
	for _, c := range samples() {
		for i := range c.e.Kids {
			ways = append(ways, func(e impl.Expr) impl.Expr {
				outer := c.e
				outer.Kids = slices.Clone(outer.Kids)
				outer.Kids[i] = e
				return outer
			})
		}
		for i := range c.e.Arms {
			ways = append(ways, func(e impl.Expr) impl.Expr {
				outer := c.e
				outer.Arms = slices.Clone(outer.Arms)
				outer.Arms[i].Body = e
				return outer
			})
		}
	}
	return ways
}

func deep(depth int, leaf impl.Expr, wrap func(impl.Expr) impl.Expr) impl.Expr {
	for range depth - 1 {
		leaf = wrap(leaf)
	}
	return leaf
}

func TestHowDeep(t *testing.T) {
	checked := 0
	for _, wrap := range deeper() {
		e := deep(impl.MaxDeep, exInt(1), wrap)
		if rawDeep(e) != impl.MaxDeep || rawNodes(e) > impl.MaxNodes {
			continue
		}
		checked++
		wantExpr(t, rawSay(wrap(exVar("deep"))), e)
		over := wrap(e)
		if impl.Nodes(over) != 0 || impl.SourceOk(bodyOnly(over)) {
			t.Errorf("%s: one too deep is taken", rawSay(wrap(exVar("deep"))))
		}
	}
	if checked < 50 {
		t.Errorf("the test's own wraps: %d", checked)
	}
}

// longBody has a text of that many bytes, its line's end with it.
func longBody(t *testing.T, size int) impl.Expr {
	t.Helper()
	return longBodyOf(t, size, exOf(impl.ExPair))
}

// longBodyOf: 140 texts are the Kids of parts like joined, which has none.
func longBodyOf(t *testing.T, size int, joined impl.Expr) impl.Expr {
	t.Helper()
	var texts [140]int
	build := func() impl.Expr {
		at := 0
		var grow func(leaves int) impl.Expr
		grow = func(leaves int) impl.Expr {
			if leaves == 1 {
				at++
				return exText(strings.Repeat("a", texts[at-1]))
			}
			both := joined
			both.Kids = []impl.Expr{grow(leaves / 2), grow(leaves - leaves/2)}
			return both
		}
		return grow(len(texts))
	}
	missing := size - len(rawPrint(bodyOnly(build())))
	for i := range texts {
		texts[i] = min(missing, impl.MaxLit)
		missing -= texts[i]
	}
	e := build()
	if len(rawPrint(bodyOnly(e))) != size {
		t.Fatalf("the test's own body: %d bytes", len(rawPrint(bodyOnly(e))))
	}
	return e
}

func TestHowLongATextMayBe(t *testing.T) {
	for _, size := range []int{impl.MaxProgram - 1, impl.MaxProgram} {
		s := bodyOnly(longBody(t, size))
		wantSource(t, s, rawPrint(s))
	}
	for _, size := range []int{impl.MaxProgram + 1, impl.MaxProgram + 2, impl.MaxProgram + 150} {
		e := longBody(t, size)
		text, ok := impl.Print(bodyOnly(e))
		if impl.SourceOk(bodyOnly(e)) || ok || len(text) > 0 {
			t.Errorf("%d bytes: taken", size)
		}
		if impl.Nodes(e) != rawNodes(e) {
			t.Errorf("%d bytes: Nodes asks for the text", size)
		}
	}
	datas := manyDatas(impl.MaxDatas)
	lines := len(rawPrint(impl.Source{Datas: datas})) - len("unit\n")
	s := impl.Source{Datas: datas, Body: longBody(t, impl.MaxProgram-lines)}
	wantSource(t, s, rawPrint(s))
	s.Body = longBody(t, impl.MaxProgram-lines+1)
	if impl.SourceOk(s) {
		t.Error("one byte too many by the datas: taken")
	}
}

func TestTreesWithoutAnEnd(t *testing.T) {
	kids := make([]impl.Expr, 1)
	kids[0] = exOf(impl.ExFst, kids...)
	kids[0].Kids = kids
	arms := []impl.Arm{armOf("A", "", impl.Expr{})}
	arms[0].Body = exMatch(exInt(1), arms...)
	arms[0].Body.Arms = arms
	wide := exInt(1)
	for range impl.MaxDeep - 1 {
		wide = exOf(impl.ExIf, wide, wide, wide)
	}
	for i, e := range []impl.Expr{kids[0], exOf(impl.ExPair, exInt(1), kids[0]), exMatch(exInt(1), arms...), wide} {
		if text, ok := impl.Print(bodyOnly(e)); impl.Nodes(e) != 0 || impl.SourceOk(bodyOnly(e)) || ok || len(text) > 0 {
			t.Errorf("tree %d: taken", i)
		}
	}
}

// TestAppliedConstructor: a constructor without Kids that is applied is as the table says, wherever it stands.
// Its text is that of a constructor with a Kid, as which it is parsed.
func TestAppliedConstructor(t *testing.T) {
	x, one := exVar("x"), exInt(1)
	applied := exOf(impl.ExApp, exNamed(impl.ExCon, "Nil"), x)
	for _, c := range []struct {
		e     impl.Expr
		parts int
		text  string
	}{
		{applied, 3, "(Nil x)\n"},
		{exOf(impl.ExRef, applied), 4, "(ref (Nil x))\n"},
		{exNamed(impl.ExFn, "x", applied), 4, "(fn x (Nil x))\n"},
		{exOf(impl.ExApp, applied, one), 5, "((Nil x) 1)\n"},
		{exOf(impl.ExApp, exNamed(impl.ExCon, "Nil"), applied), 5, "(Nil (Nil x))\n"},
		{exNamed(impl.ExCon, "Some", one, applied), 5, "(Some 1 (Nil x))\n"},
		{exMatch(x, armOf("A", "", applied)), 5, "(match x (A (Nil x)))\n"},
		{exMatch(applied, armOf("A", "a", one), armOf("", "", applied)), 8, "(match (Nil x) (A a 1) (_ (Nil x)))\n"},
	} {
		if impl.Nodes(c.e) != c.parts {
			t.Errorf("%s: %d parts", c.text, impl.Nodes(c.e))
		}
		wantTwofold(t, bodyOnly(c.e), c.text)
	}
	wantParsed(t, "(Nil 1)", bodyOnly(exNamed(impl.ExCon, "Nil", one)))
	wantSource(t, bodyOnly(exOf(impl.ExApp, one, exNamed(impl.ExCon, "Nil"))), "(1 Nil)\n")
	wantSource(t, bodyOnly(exOf(impl.ExApp, exNamed(impl.ExCon, "Nil", exInt(2)), one)), "((Nil 2) 1)\n")
}

// TestAppliedConstructorWithinTheLimits: what is wrong with an application is wrong with this one, too.
func TestAppliedConstructorWithinTheLimits(t *testing.T) {
	nil0 := exNamed(impl.ExCon, "Nil")
	deepest := deep(impl.MaxDeep, exInt(1), func(e impl.Expr) impl.Expr { return exOf(impl.ExApp, nil0, e) })
	wantTwofold(t, bodyOnly(deepest), rawPrint(bodyOnly(deepest)))
	largest := exOf(impl.ExApp, nil0, bulk(impl.MaxNodes-2))
	wantTwofold(t, bodyOnly(largest), rawPrint(bodyOnly(largest)))
	wantNoExpr(t, "too deep", exOf(impl.ExApp, nil0, deepest))
	wantNoExpr(t, "too many parts", exOf(impl.ExApp, nil0, bulk(impl.MaxNodes-1)))
	wantNoExpr(t, "a Kid too few", exOf(impl.ExApp, nil0))
	wantNoExpr(t, "a Kid too many", exOf(impl.ExApp, nil0, exInt(1), exInt(1)))
	wantNoExpr(t, "no great word", exOf(impl.ExApp, exNamed(impl.ExCon, "nil"), exInt(1)))
	wantNoExpr(t, "a name of its own", exNamed(impl.ExApp, "x", nil0, exInt(1)))
}

func TestDatasHaveTheirText(t *testing.T) {
	list := dataOf("list", 1, conOf("Nil"), conOf("Cons", tyVar(0), tyData(0, tyVar(0))))
	both := dataOf("both", 2, conOf("Both", tyVar(1), tyVar(0)))
	bool0 := dataOf("bool", 0, conOf("No"), conOf("Yes"))
	all := dataOf("all", 0, conOf("All", tyOf(impl.TyPair, tyData(2), tyUnit), tyOf(impl.TyFun, tyInt, tyText), tyOf(impl.TyRef, tyData(3))),
		conOf("More", tyData(0, tyData(1, tyInt, tyData(0, tyData(2))))))
	wantSource(t, datasOnly(list), "(data list 1 (Nil) (Cons '0 (list '0)))\nunit\n")
	wantSource(t, datasOnly(bool0), "(data bool 0 (No) (Yes))\nunit\n")
	wantSource(t, datasOnly(both), "(data both 2 (Both '1 '0))\nunit\n")
	wantSource(t, datasOnly(list, both, bool0, all), "(data list 1 (Nil) (Cons '0 (list '0)))\n(data both 2 (Both '1 '0))\n(data bool 0 (No) (Yes))\n"+
		"(data all 0 (All (pair bool unit) (fun int text) (ref all)) (More (list (both int (list bool)))))\nunit\n")
	for _, datas := range goodDatas() {
		s := impl.Source{Datas: datas, Body: exInt(-7)}
		wantSource(t, s, rawPrint(s))
	}
}

func wantLex(t *testing.T, text string, want ...impl.Token) {
	t.Helper()
	if got, at := impl.Lex([]byte(text)); at != -1 || !slices.EqualFunc(got, want, sameToken) {
		t.Errorf("%.100q: %d,%s", text, at, sayTokens(got))
	}
}

// marked takes the mark § out of a text, and answers where it stood.
func marked(t *testing.T, text string) (string, int) {
	t.Helper()
	at := strings.Index(text, "§")
	if at < 0 || strings.Count(text, "§") != 1 {
		t.Fatalf("the test's own text: %.100s", text)
	}
	return strings.Replace(text, "§", "", 1), at
}

// wantNoLex looks for no tokens, and the place of the mark §.
func wantNoLex(t *testing.T, text string) {
	t.Helper()
	plain, want := marked(t, text)
	if got, at := impl.Lex([]byte(plain)); at != want || len(got) > 0 {
		t.Errorf("%.100q: %d,%s", text, at, sayTokens(got))
	}
	if s, code, at := impl.Parse([]byte(plain)); code != impl.ParseByte || at != want || !isZeroSource(s) {
		t.Errorf("%.100q: parsed with %d at %d", text, code, at)
	}
}

func tokenOf(kind int, at int, text string) impl.Token {
	return impl.Token{Kind: kind, At: at, Text: []byte(text)}
}

func numberAt(at int, n int) impl.Token {
	return impl.Token{Kind: impl.TokInt, At: at, N: n}
}

func TestLexFindsTokens(t *testing.T) {
	wantLex(t, "")
	wantLex(t, " ")
	wantLex(t, "\n \n  ")
	wantLex(t, "(", tokenOf(impl.TokOpen, 0, ""))
	wantLex(t, ")", tokenOf(impl.TokClose, 0, ""))
	wantLex(t, " \n( )", tokenOf(impl.TokOpen, 2, ""), tokenOf(impl.TokClose, 4, ""))
	wantLex(t, "())", tokenOf(impl.TokOpen, 0, ""), tokenOf(impl.TokClose, 1, ""), tokenOf(impl.TokClose, 2, ""))
	wantLex(t, "(fn x\n\n x)", tokenOf(impl.TokOpen, 0, ""), tokenOf(impl.TokWord, 1, "fn"), tokenOf(impl.TokWord, 4, "x"), tokenOf(impl.TokWord, 8, "x"), tokenOf(impl.TokClose, 9, ""))
	wantLex(t, "_ '0 '9 A", tokenOf(impl.TokWord, 0, "_"), tokenOf(impl.TokWord, 2, "'0"), tokenOf(impl.TokWord, 5, "'9"), tokenOf(impl.TokWord, 8, "A"))
	wantLex(t, `a"b"3"" "c"d`, tokenOf(impl.TokWord, 0, "a"), tokenOf(impl.TokLit, 1, "b"), numberAt(4, 3), tokenOf(impl.TokLit, 5, ""), tokenOf(impl.TokLit, 8, "c"), tokenOf(impl.TokWord, 11, "d"))
	wantLex(t, `"(a b) 1"`, tokenOf(impl.TokLit, 0, "(a b) 1"))
	wantLex(t, "x(-5)A", tokenOf(impl.TokWord, 0, "x"), tokenOf(impl.TokOpen, 1, ""), numberAt(2, -5), tokenOf(impl.TokClose, 4, ""), tokenOf(impl.TokWord, 5, "A"))
	for _, word := range slices.Concat(goodNames(), goodGreats(), allKeyWords) {
		wantLex(t, word, tokenOf(impl.TokWord, 0, word))
		wantLex(t, "("+word+"\n", tokenOf(impl.TokOpen, 0, ""), tokenOf(impl.TokWord, 1, word))
	}
	for _, n := range []int{0, 1, -1, 9, 10, -10, 100, 1000000, mostWhole - 1, mostWhole, leastWhole + 1, leastWhole} {
		wantLex(t, fmt.Sprint(n), numberAt(0, n))
	}
	most := strings.Repeat("~", impl.MaxLit)
	wantLex(t, `"`+most+`"`, tokenOf(impl.TokLit, 0, most))
}

func TestLexTellsTheFirstPieceThatIsNone(t *testing.T) {
	for _, piece := range []string{
		"-", "-0", "--1", "-a", "+1", "1-", "00", "01", "-01", "0x1", "1a", "1_0", "1.0", "1e3", "1073741824", "-1073741825",
		"10000000000", "9223372036854775807", "9223372036854775808", "-9223372036854775808", "18446744073709551616", strings.Repeat("1", 100), strings.Repeat("0", 9),
		"'", "'a", "'00", "'10", "''", "0'", "'-1", "__", "_a", "_0", "a_", "AB", "aB", "abcdefghi", "Abcdefghi", "a'", "a-b",
		"%", ".", ",", ";", "[", "]", "{", "}", "\\", "a\\", "a\tb", "\t", "\r", "\x00", "\x0b", "\x7f", "\x80", "\xff", "a\xff", "\xc3\xa9", "\xa0", "\u00a0", "\u3000", "٣",
	} {
		wantNoLex(t, "§"+piece)
		wantNoLex(t, "  \n §"+piece+" x")
		wantNoLex(t, "(x \"a\"§"+piece+")")
		wantNoLex(t, "(§"+piece+"\"a\" % \"")
		wantNoLex(t, "1 §"+piece+"(")
	}
	for _, text := range []string{
		`§"`, `§"a`, `§" (`, `a§"`, `"a"§"`, `"a" §"b c`, `§"\"`, `§"\""`, "§\"a\nb\"", "§\"\x1f\"", "§\"\x7f\"", "§\"\x80\"", "(x §\"\t\") %",
		`§"` + strings.Repeat("a", impl.MaxLit+1) + `"`, `""§"` + strings.Repeat(" ", impl.MaxLit+1) + `"`, `§"` + strings.Repeat("a", impl.MaxLit+1),
	} {
		wantNoLex(t, text)
	}
}

func TestLexOfLongTexts(t *testing.T) {
	blanks := strings.Repeat(" ", impl.MaxProgram)
	wantLex(t, blanks)
	wantLex(t, blanks[1:]+"x", tokenOf(impl.TokWord, impl.MaxProgram-1, "x"))
	wantNoLex(t, blanks[1:]+"§%")
	for _, text := range []string{blanks + " ", blanks + "x", "%" + blanks, blanks + blanks, "x " + blanks, strings.Repeat("(", 1000000)} {
		if got, at := impl.Lex([]byte(text)); at != 0 || len(got) > 0 {
			t.Errorf("%d bytes: %d,%s", len(text), at, sayTokens(got))
		}
		if s, code, at := impl.Parse([]byte(text)); code != impl.ParseLong || at != 0 || !isZeroSource(s) {
			t.Errorf("%d bytes: parsed with %d at %d", len(text), code, at)
		}
	}
	many := strings.Repeat("(", impl.MaxProgram)
	if got, at := impl.Lex([]byte(many)); at != -1 || len(got) != impl.MaxProgram || got[impl.MaxProgram-1].At != impl.MaxProgram-1 {
		t.Errorf("MaxProgram tokens: %d, %d", len(got), at)
	}
}

func wantRawLex(t *testing.T, text string) {
	t.Helper()
	want, wantAt := rawLex(text)
	if got, at := impl.Lex([]byte(text)); at != wantAt || !slices.EqualFunc(got, want, sameToken) {
		t.Fatalf("%q: %d,%s, not %d,%s", text, at, sayTokens(got), wantAt, sayTokens(want))
	}
}

func TestEveryTextOfTwoBytes(t *testing.T) {
	for a := range 256 {
		wantRawLex(t, string([]byte{byte(a)}))
		for b := range 256 {
			wantRawLex(t, string([]byte{byte(a), byte(b)}))
		}
	}
}

func TestManyTextsAgainstTheForms(t *testing.T) {
	w := &walk{state: 51}
	pieces := []string{" ", "\n", "(", ")", `"`, "'", "_", "-", "0", "1", "9", "a", "z", "A", "Z", "\t", "\\", "~", "\x7f", "abcdefg", "107374182", "fn", `"a b"`}
	well := 0
	for range 60000 {
		text := ""
		for range w.below(9) {
			text += pieces[w.below(len(pieces))]
		}
		wantRawLex(t, text)
		if _, at := rawLex(text); at < 0 {
			well++
		}
	}
	if well < 5000 {
		t.Errorf("the test's own texts: %d are well", well)
	}
}
