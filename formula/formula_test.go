package formula

import (
	"math/rand"
	"regexp"
	"slices"
	"strings"
	"testing"

	"transclude/api"
	"transclude/number"
	"transclude/sample"
)

// The limits, written anew so that the tests fix their values.
const (
	maxBytes  = 400
	maxLevels = 20
	most      = 1000000000
)

// num returns a number.
func num(num, den int) api.Number { return api.Number{Num: num, Den: den} }

// must checks what Eval makes of a text. It ends the test, as many tests would fail for each text.
func must(t *testing.T, s string, want api.Number, wantErr api.Errno) {
	t.Helper()
	got, err := Eval(s)
	if got != want || err != wantErr {
		t.Fatalf("Eval(%.420q) = %v, %v, want %v, %v", s, got, err, want, wantErr)
	}
}

// mustBe checks that the texts have an integer as their value.
func mustBe(t *testing.T, want int, texts ...string) {
	t.Helper()
	for _, s := range texts {
		must(t, s, num(want, 1), api.OK)
	}
}

// mustBeFraction checks that the texts have this value.
func mustBeFraction(t *testing.T, x, y int, texts ...string) {
	t.Helper()
	for _, s := range texts {
		must(t, s, num(x, y), api.OK)
	}
}

// mustFail checks that the texts have an error.
func mustFail(t *testing.T, wantErr api.Errno, texts ...string) {
	t.Helper()
	for _, s := range texts {
		must(t, s, api.Number{}, wantErr)
	}
}

func prefixes() []string { return []string{"-", "+", "not", "floor"} }

func comparisons() []string { return []string{"=", "<>", "<", ">", "<=", ">="} }

// chains are the operators of which several can stand in a row and associate to the left.
func chains() []string { return []string{"or", "and", "+", "-", "*", "/", "mod", "round"} }

// binary are all operators that stand between their operands.
func binary() []string { return append(append(chains(), comparisons()...), "^") }

// within returns s in so many parentheses.
func within(s string, levels int) string {
	return strings.Repeat("(", levels) + s + strings.Repeat(")", levels)
}

// Reading the chapter by its words.

var tokenPattern = regexp.MustCompile(`\A(?:([0-9]+)(?:\.([0-9]+))?|([a-z]+)|<=|>=|<>|[-+*/^()=<>])`)

// wordsSplit divides a text into tokens.
func wordsSplit(s string) ([]string, bool) {
	var tokens []string
	for s = strings.Trim(s, "\t\n "); s != ""; s = strings.TrimLeft(s, "\t\n ") {
		x := tokenPattern.FindStringSubmatch(s)
		if x == nil || len(x[1]) > 9 || len(x[2]) > 9 {
			return nil, false
		}
		if x[3] != "" && !slices.Contains(strings.Fields("mod and or not round floor"), x[3]) {
			return nil, false
		}
		tokens, s = append(tokens, x[0]), s[len(x[0]):]
	}
	return tokens, true
}

// wordsGrammar is the grammar of P8.1, where rules that associate to the left begin with themselves.
var wordsGrammar = map[string][][]string{
	"formula":     productions("conjunction", "formula or conjunction"),
	"conjunction": productions("comparison", "conjunction and comparison"),
	"comparison":  productions("sum", "sum = sum", "sum <> sum", "sum < sum", "sum > sum", "sum <= sum", "sum >= sum"),
	"sum":         productions("term", "sum + term", "sum - term"),
	"term":        productions("rounded", "term * rounded", "term / rounded", "term mod rounded"),
	"rounded":     productions("unary", "rounded round unary"),
	"unary":       productions("power", "- unary", "+ unary", "not unary", "floor unary"),
	"power":       productions("primary", "primary ^ unary"),
	"primary":     productions("NUMBER", "( formula )"),
}

// productions divides the texts into their symbols.
func productions(texts ...string) [][]string {
	var l [][]string
	for _, s := range texts {
		l = append(l, strings.Fields(s))
	}
	return l
}

// wordsNode is a NUMBER or an operator; parentheses have the token "(".
type wordsNode struct {
	token string
	kids  []*wordsNode
}

// wordsSpan asks whether the tokens from one to before another are what a rule stands for.
type wordsSpan struct {
	rule     string
	from, to int
}

// wordsReader looks for derivations and keeps what it has found, also that there are none.
type wordsReader struct {
	tokens []string
	found  map[wordsSpan]*wordsNode
}

// read returns the tree of a span, or nil.
func (r wordsReader) read(x wordsSpan) *wordsNode {
	n, ok := r.found[x]
	if ok || x.from >= x.to {
		return n
	}
	for _, production := range wordsGrammar[x.rule] {
		if n = r.produce(production, x.from, x.to); n != nil {
			break
		}
	}
	r.found[x] = n
	return n
}

// produce returns the tree of the tokens of a span if they are what a production stands for.
func (r wordsReader) produce(l []string, from, to int) *wordsNode {
	switch {
	case l[0] == "NUMBER":
		if to == from+1 && strings.Contains("0123456789", r.tokens[from][:1]) {
			return &wordsNode{token: r.tokens[from]}
		}
	case l[0] == "(":
		if r.tokens[from] == "(" && r.tokens[to-1] == ")" {
			return wordsMake("(", r.read(wordsSpan{l[1], from + 1, to - 1}))
		}
	case len(l) == 1:
		return r.read(wordsSpan{l[0], from, to})
	case len(l) == 2:
		if r.tokens[from] == l[0] {
			return wordsMake(l[0], r.read(wordsSpan{l[1], from + 1, to}))
		}
	default:
		return r.between(l, from, to)
	}
	return nil
}

// between is produce for a production with an operator between its operands.
func (r wordsReader) between(l []string, from, to int) *wordsNode {
	for i := from + 1; i < to-1; i++ {
		if r.tokens[i] != l[1] {
			continue
		}
		if left := r.read(wordsSpan{l[0], from, i}); left != nil {
			if n := wordsMake(l[1], left, r.read(wordsSpan{l[2], i + 1, to})); n != nil {
				return n
			}
		}
	}
	return nil
}

// wordsMake returns a node, or nil if one of its operands is nil.
func wordsMake(token string, kids ...*wordsNode) *wordsNode {
	if slices.Contains(kids, nil) {
		return nil
	}
	return &wordsNode{token, kids}
}

// levels are those of P8.3.
func (n *wordsNode) levels() int {
	switch len(n.kids) {
	case 0:
		return 1
	case 1:
		return n.kids[0].levels() + 1
	}
	return max(n.kids[0].levels(), n.kids[1].levels()) + 1
}

// value is that of P8.2.
func (n *wordsNode) value() (api.Number, api.Errno) {
	if len(n.kids) == 0 {
		return number.Parse(n.token)
	}
	a, err := n.kids[0].value()
	if err != api.OK {
		return api.Number{}, err
	}
	if len(n.kids) == 1 {
		return wordsPrefix(n.token, a)
	}
	b, err := n.kids[1].value()
	if err != api.OK {
		return api.Number{}, err
	}
	return wordsBinary(n.token, a, b)
}

func wordsPrefix(op string, a api.Number) (api.Number, api.Errno) {
	switch op {
	case "-":
		return number.Sub(num(0, 1), a)
	case "floor":
		i, err := number.Floor(a)
		return num(i, 1), err
	case "not":
		if a == num(0, 1) {
			return num(1, 1), api.OK
		}
		return num(0, 1), api.OK
	}
	return a, api.OK
}

func wordsBinary(op string, a, b api.Number) (api.Number, api.Errno) {
	functions := map[string]func(a, b api.Number) (api.Number, api.Errno){
		"+": number.Add, "-": number.Sub, "*": number.Mul, "/": number.Div, "mod": number.Mod}
	if f, ok := functions[op]; ok {
		return f(a, b)
	}
	order, x, y := number.Compare(a, b), a != num(0, 1), b != num(0, 1)
	truths := map[string]bool{"=": order == 0, "<>": order != 0, "<": order == -1, ">": order == 1, "<=": order != 1, ">=": order != -1, "and": x && y, "or": x || y}
	if truth, ok := truths[op]; ok {
		return map[bool]api.Number{true: num(1, 1), false: num(0, 1)}[truth], api.OK
	}
	return wordsRaise(op, a, b)
}

// wordsRaise is wordsBinary for the operators whose right operand has to be an integer of a range.
func wordsRaise(op string, a, b api.Number) (api.Number, api.Errno) {
	last := map[string]int{"round": 9, "^": 30}[op]
	if b.Den != 1 || b.Num < 0 || b.Num > last {
		return api.Number{}, api.ErrRange
	}
	if op == "round" {
		return number.Round(a, b.Num)
	}
	if b.Num == 0 {
		return num(1, 1), api.OK
	}
	product, err := a, api.OK
	for i := 1; i < b.Num && err == api.OK; i++ {
		product, err = number.Mul(product, a)
	}
	return product, err
}

// wordsEval is P8.3.
func wordsEval(s string) (api.Number, api.Errno) {
	if len(s) > 400 {
		return api.Number{}, api.ErrTooLarge
	}
	tokens, ok := wordsSplit(s)
	if !ok {
		return api.Number{}, api.ErrSyntax
	}
	r := wordsReader{tokens, map[wordsSpan]*wordsNode{}}
	root := r.read(wordsSpan{"formula", 0, len(tokens)})
	if root == nil {
		return api.Number{}, api.ErrSyntax
	}
	if root.levels() > 20 {
		return api.Number{}, api.ErrDepth
	}
	return root.value()
}

func mustBeAsWords(t *testing.T, s string) {
	t.Helper()
	want, wantErr := wordsEval(s)
	must(t, s, want, wantErr)
}

// mustFit checks that a formula has not too many levels, nor any other error.
func mustFit(t *testing.T, s string) {
	t.Helper()
	mustBeAsWords(t, s)
	if _, err := Eval(s); err != api.OK {
		t.Fatalf("Eval(%q) = %v", s, err)
	}
}

// The examples

func TestExamples(t *testing.T) {
	mustBe(t, 1, "2 + 3 * 4 = 14")
	mustBe(t, -4, "-2 ^ 2")
	mustBe(t, 512, "2 ^ 3 ^ 2")
	mustBeFraction(t, 7, 2, "7 / 2 round 0")
	mustFail(t, api.ErrSyntax, "1 / 0 + (")
	mustFail(t, api.ErrZero, "1/0")
	mustBe(t, 0, "not 0.5")
	mustFail(t, api.ErrSyntax, "1234567890", "")
}

// Tokens

func TestBlanks(t *testing.T) {
	mustBe(t, 1, " 1", "1 ", "\t1\t", "\n1\n", " \t\n \n\t1 \n\t \t\n", "( 1\t)", "(\n1)")
	mustBe(t, 3, "1+2", "1 + 2", "1\t+\n2", "\n1\n\n+\t\t2  ", "1 \t\n+ \t\n2")
	mustBe(t, 2, "8mod 3", "8\nmod 3", "8\tmod\t3", "floor\n2.5", "floor\t2.5", "not\n1+2")
	mustFail(t, api.ErrSyntax, " ", "\t", "\n", " \t\n", "1 2", "1\t2", "1\n2", "1 .5", "1. 5", "1 . 5", "1.5 5", "12 34")
	mustFail(t, api.ErrSyntax, "1 < = 2", "1 > = 2", "1 < > 2", "1 <\n= 2", "8 mo d 3", "8 m\tod 3", "n ot 1", "fl oor 1", "1 a nd 1", "1 o\nr 1", "1 rou nd 1")
}

func TestOtherBytesAreNoBlanks(t *testing.T) {
	for _, blank := range []string{"\r", "\v", "\f", "\b", "\x00", "\x1f", "\x7f", "\x85", "\xa0", "\u0085", "\u00a0", "\u2003", "\u2028", "\u3000", "\ufeff", "_", ","} {
		mustFail(t, api.ErrSyntax, blank, "1"+blank, blank+"1", "1"+blank+"+ 1", "1 +"+blank+"1")
	}
	mustFail(t, api.ErrSyntax, "1\r\n+ 1", "1\r\n")
}

func TestLongestSigns(t *testing.T) {
	mustBe(t, 1, "1<=1", "1>=1", "1<=2", "2>=1", "1<>2", "1=1", "1<2", "2>1", "1>-1", "-1<+1", "1<(2)", "(1)<>(2)", "-1<=-1", "1>=+1")
	mustBe(t, 0, "1<>1", "1<=0", "0>=1", "1<1", "1>1", "1=2", "1<-1", "1=-1", "1<>+1", "-1>=1")
	mustFail(t, api.ErrSyntax, "1=<1", "1=>1", "1==1", "1><1", "1>>1", "1<<1", "1<=>1", "1<>=1", "1<==1", "1>==1", "1>=<1", "1<=<1", "1<>>1", "1<<>1", "1<<=1", "1>>=1", "1=<>1", "1<>-", "1**2", "1//2", "1^^2")
}

func TestGroupsOfDigits(t *testing.T) {
	mustBe(t, 999999999, "999999999", "999999999.0", "999999999.000000000")
	mustBe(t, 1, "000000001", "1.000000000", "000000001.000000000", "1.0")
	mustBe(t, 0, "0", "000000000", "0.000000000", "000000000.000000000")
	mustBeFraction(t, 1, most, "0.000000001")
	mustBeFraction(t, 999999999, most, "0.999999999", "000000000.999999999")
	mustBeFraction(t, 246913579, 2, "123456789.5")
	mustBe(t, 7, "007", "3+4", "03+004")
	mustFail(t, api.ErrSyntax, "1234567890", "0000000000", "0000000001", "9999999999", "1234567890.5", "0000000000.5", "0.0000000000", "0.1234567890", "1.0000000000", "123456789.0123456789", "1234567890.1234567890",
		"1 + 1234567890", "1234567890 + 1", "(1234567890)", "1 + 0.1234567890 + 1", strings.Repeat("1", 18), strings.Repeat("0", 400), "0."+strings.Repeat("0", 398))
}

func TestPoints(t *testing.T) {
	mustBeFraction(t, 3, 2, "1.5", "1.50", "01.5", "(1.5)", "+1.5", "1.5+0", "0+1.5")
	mustFail(t, api.ErrSyntax, ".", ".5", "5.", "1.", "0.", "-.5", "+.5", "1.+1", "1+.5", "(.5)", "(1.)", "1.)", "1..5", "1.5.", "1.5.5", "..5", "1.-5", "1.x", "1.mod 2", "1. mod 2", "1.\n5", "1,5", "1\u00b75", "1.\uff15")
}

func TestWordsBesideOthers(t *testing.T) {
	mustBe(t, 2, "8mod3", "8mod 3", "8 mod3", "8.0mod3.0", "(8)mod(3)", "floor2.5", "floor(2.5)", "2.4round0", "(2.4)round(0)", "floor 2.5round0")
	mustBe(t, 1, "1and1", "1or0", "not0", "not(0)", "1and(1)", "0or not0", "1and-1", "0or-1", "8mod-9<>8", "not not 1", "not-0", "not+0", "-not-1+1", "floor not 0", "not(not 1)")
	mustFail(t, api.ErrSyntax, "notnot 1", "notnot1", "floorfloor 1", "floornot 1", "notfloor 1", "1 andnot 0", "1 ornot 0", "8 modfloor 3", "2 roundfloor 0", "1 orand 1", "1 modmod 2",
		"modx", "8 modx 3", "8 xmod 3", "8 mods 3", "8 mo 3", "nota 1", "no 1", "n 1", "1 an 1", "1 ands 1", "1 rounds 1", "2 roun 0", "floors 1", "floo 1", "x", "a", "z", "x+1", "1+x", "pi", "e", "1e5", "1e+5", "0x1", "1 div 2", "1 xor 1", "true", "false", "abs 1", "ceil 1", "trunc 1", "sqrt 4", "if")
	mustFail(t, api.ErrSyntax, "Not 1", "NOT 1", "8 MOD 3", "8 Mod 3", "1 AND 1", "1 OR 1", "1 Or 1", "Floor 1", "2 ROUND 0", "no\u0074\u0301 1", "m\u00f6d", "\uff4eot 1")
	mustFail(t, api.ErrSyntax, "mod", "and", "or", "not", "round", "floor", "mod mod", "not not", "floor not", "1 mod", "mod 1", "1 not", "1 floor")
}

func TestEachByte(t *testing.T) {
	for _, s := range []string{"1", "1.5", "12+34", "1<=2", "1 <> 2", "not 0", "8 mod 3", "2 round 0", "(1 or 0) and 1", "-2 ^ 2"} {
		for i := range len(s) + 1 {
			for c := range 256 {
				b := string([]byte{byte(c)})
				mustBeAsWords(t, s[:i]+b+s[i:])
				if i < len(s) {
					mustBeAsWords(t, s[:i]+b+s[i+1:])
				}
			}
			mustBeAsWords(t, s[:i])
			mustBeAsWords(t, s[i:])
		}
	}
	for c := range 256 {
		if b := string([]byte{byte(c)}); !strings.Contains("0123456789", b) {
			mustFail(t, api.ErrSyntax, b)
		}
	}
}

func TestOtherSigns(t *testing.T) {
	mustFail(t, api.ErrSyntax, "1 # 2", "1 ! 2", "!1", "1!", "1 != 2", "1 % 2", "1 & 1", "1 | 1", "~1", "1 : 2", "1; 2", "[1]", "{1}", "1?2", "$1", "\"1\"", "'1'", "1\\2", "1@2", "1`2", "\xff", "1\xff", "\xff1", "1 + \u00e9", "\u0661", "\uff11",
		"1 \u2212 2", "1 \u2264 2", "1 \u2260 2", "2 \u00d7 3", "6 \u00f7 2", "2\u00b2", "{{1}}", "<!-- -->1")
}

// P8.1

func TestLevelsOfTheGrammar(t *testing.T) {
	mustBe(t, 1, "1 or 1 and 0", "1 or 0 and 0", "1 or 0 = 1")
	mustBe(t, 0, "0 and 0 or 0", "0 and 1 or 0", "0 and 0 = 0", "0 = 0 and 0", "1 < 2 and 0", "0 and 2 > 1")
	mustBe(t, 1, "0 and 1 or 1", "0 and 0 or 1", "2 + 1 = 3", "3 = 1 + 2", "1 + 1 < 3", "5 > 1 + 3", "1 <> 2 - 2", "5 - 1 >= 4", "4 <= 2 + 2")
	mustBe(t, 7, "1 + 2 * 3", "3 * 2 + 1", "8 - 3 / 3", "15 / 3 + 2", "6 + 9 mod 8", "9 mod 8 + 6", "9 - 10 mod 4")
	mustBeFraction(t, 7, 2, "7 / 2 round 0", "7 round 0 / 2", "1.4 round 0 * 3.5", "3.5 * 1.4 round 0", "7.5 mod 4.4 round 0", "3.5 mod 4.4 round 0")
	mustBe(t, 1, "floor 1.5 round 0", "not 0.4 round 0 + 1", "floor 1.5 round floor 0.5")
	mustBe(t, 6, "floor 2.5 ^ 2", "+2 ^ 2 + 2", "2 * 3 ^ 1", "2 + 2 ^ 2", "2 ^ 2 + 2", "3 ^ 1 * 2")
	mustBe(t, 0, "not 2 ^ 0", "not 1 = 1", "not 0 and 0", "not 0 * 0", "not 1 + 0")
	mustBe(t, 1, "not 0 = 1", "not 0 or 1", "not (1 = 2)", "0 = not 1")
	mustBeFraction(t, 13, 10, "1.25 round 0 ^ 0", "1.25 round 1 ^ 2")
	mustBe(t, 4, "1.9 ^ 2 round 0", "1.9 ^ 2 round 0 / 1")
}

func TestOperatorsOfTheSameLevel(t *testing.T) {
	mustBe(t, -4, "1 - 2 - 3")
	mustBe(t, 2, "1 - 2 + 3", "1 + 4 - 3", "5 - (1 + 2)")
	mustBe(t, 1, "8 / 4 / 2")
	mustBe(t, 4, "8 / 4 * 2", "2 * 8 / 4")
	mustBe(t, 2, "2 * 7 mod 4", "8 / 4 mod 3", "2 * (7 mod 5) mod 3 + 1")
	mustBe(t, 6, "7 mod 4 * 2")
	mustBeFraction(t, 3, 2, "7 mod 4 / 2")
	mustBe(t, 3, "17 mod 10 mod 4")
	mustBe(t, 1, "1.26 round 1 round 0")
	mustBeFraction(t, 2, 3, "2 / 3 round 1 round 0")
	mustBe(t, 1, "1 or 0 or 0", "0 or 0 or 1", "1 and 1 and 1")
	mustBe(t, 0, "1 and 0 and 1", "1 and 1 and 0", "0 and 1 and 1", "0 or 0 or 0")
}

func TestPowersToTheRight(t *testing.T) {
	mustBe(t, 512, "2 ^ 3 ^ 2", "2^3^2", "2 ^ (3 ^ 2)")
	mustBe(t, 64, "(2 ^ 3) ^ 2")
	mustBe(t, 2, "2 ^ 1 ^ 30", "2 ^ 3 ^ 0", "2 ^ 1 ^ 2 ^ 3")
	mustBe(t, 1, "2 ^ 0 ^ 2", "2 ^ 0 ^ 1 ^ 5")
	mustFail(t, api.ErrRange, "1 ^ 2 ^ 5", "1 ^ 3 ^ 4")
}

func TestSignsAroundPowers(t *testing.T) {
	mustBe(t, -4, "-2 ^ 2", "- 2^2", "+-2 ^ 2", "-+2 ^ 2", "-2 ^ +2", "0 - 2 ^ 2", "-(2) ^ 2")
	mustBe(t, 4, "(-2) ^ 2", "--2 ^ 2", "+2 ^ 2", "2 ^ +2", "2 ^ --2", "2 ^ -(-2)", "4 ^ not 0", "2 ^ floor 2.5", "4 ^ not not 7", "2 ^ -floor -1.5", "4 ^ floor 5 ^ 0")
	mustBe(t, 1, "2 ^ -0", "2 ^ not 1", "-2 ^ -0 + 2", "2 ^ -0 ^ 2", "not 2 ^ 0 + 1", "2 ^ floor 0.5", "2 ^ - not 5")
	mustBe(t, 3, "2 ^ -0 + 2", "floor 1.5 ^ 3", "1 + 2 ^ not 0")
	mustFail(t, api.ErrRange, "2 ^ -1", "2 ^ -0 - 1 + 2 ^ -2", "1 ^ -1 ^ 0", "1 ^ - 2 ^ 0", "2 ^ 2 ^ -1")
	mustFail(t, api.ErrSyntax, "2 ^", "^ 2", "2 ^ ^ 2", "2 ^ * 2", "2 - ^ 2", "2 ^ mod 2", "-^2", "2 ^ )")
}

func TestPrefixes(t *testing.T) {
	mustBe(t, 1, "--1", "+1", "++1", "-+-1", "+-+-1", "- - 1", "not not 2", "not not not 0", "- -not 0", "floor --1.5", "1 * + 1", "1 - - 0", "1 + + 0", "1 + - 0", "1 = + 1", "1 and + 1", "0 or - 1", "1 round + 0", "1 / - - 1")
	mustBe(t, -1, "-1", "+-1", "-+1", "---1", "- not 0", "- floor 1.5", "floor -0.5", "1 * -1", "-1 * 1", "1 / -1", "1 - 2", "1 - + 2", "1 + - 2", "not 1 - 1", "-not 0")
	mustBe(t, 0, "not -1", "not - 1", "not floor 1.5", "floor not 7", "-not 1", "not - not 0", "1 - - - 1", "floor - - 0.5")
	mustFail(t, api.ErrSyntax, "-", "+", "--", "1 -", "1 +", "1 - -", "- not", "1 not 0", "1 floor 2", "(-)", "- )", "not ()", "1 not = 0", "- * 1", "not and 1", "+ mod 1")
}

func TestOneComparison(t *testing.T) {
	for _, op := range comparisons() {
		for _, other := range comparisons() {
			mustFail(t, api.ErrSyntax, "1 "+op+" 1 "+other+" 1", "1"+op+"1"+other+"1", "(1 "+op+" 1 "+other+" 1)", "1 "+op+" 1 + 1 "+other+" 1")
			mustBeAsWords(t, "(1 "+op+" 1) "+other+" 1")
			mustBeAsWords(t, "1 "+op+" (1 "+other+" 1)")
			mustBeAsWords(t, "1 "+op+" 2 and 2 "+other+" 1")
			mustBeAsWords(t, "1 "+op+" 2 or 2 "+other+" 1")
		}
	}
	mustBe(t, 1, "(1 < 2) < 3", "(3 > 2) = 1", "1 < 2 and 2 < 3", "1 > 2 or 2 < 3", "2 > (1 = 1)")
	mustBe(t, 0, "1 < (2 < 3)", "(3 > 2) > 1", "1 < 2 and 3 < 2")
}

func TestParentheses(t *testing.T) {
	mustBe(t, 1, "(1)", "((1))", "( ( ( 1 ) ) )", "(1) * (1)", "-(1) + 2", "(((1)) and ((1)))", "(-(-(1)))", "((1) = (1))")
	mustBe(t, 9, "(1 + 2) * 3", "3 * (1 + 2)", "(1 + 2) ^ 2", "3 ^ (1 + 1)", "(4 + 0.5) * 2", "9 round (1 - 1)")
	mustFail(t, api.ErrSyntax, "()", "( )", "(", ")", "((", "))", ")(", "(1", "1)", "((1)", "(1))", ")1(", "(1)(2)", "(1) (2)", "1(2)", "(1)2", "2(3 + 4)", "(1 2)", "(1 +)", "(+)", "1 + ()", "() + 1", "(1 + 2", "1 + 2)", "1 + (2", "not (", "2 ^ (", "(1 or)", "(1)) + ((1)")
}

func TestOperandsAreMissing(t *testing.T) {
	for _, op := range binary() {
		isSign := op == "+" || op == "-"
		mustFail(t, api.ErrSyntax, op, "1 "+op, "1 "+op+" )", "(1 "+op+")", "1 "+op+" 1 "+op, "1 "+op+" * 1", "1 "+op+" and 1", "1 "+op+" 1 1", "1 1 "+op+" 1")
		if !isSign {
			mustFail(t, api.ErrSyntax, op+" 1", "("+op+" 1)", "1 "+op+" "+op+" 1", "1 + "+op+" 1", "not "+op+" 1", op+" "+op)
		}
		for _, other := range binary() {
			mustBeAsWords(t, "1 "+op+" "+other+" 1")
			mustBeAsWords(t, "3 "+op+" 2 "+other+" 1")
			mustBeAsWords(t, "3 "+op+" 0 "+other+" 2")
			mustBeAsWords(t, "0.5 "+op+" 3 "+other+" 0")
		}
		for _, prefix := range prefixes() {
			mustBeAsWords(t, prefix+" 2.5 "+op+" 2")
			mustBeAsWords(t, "2.5 "+op+" "+prefix+" 0")
			mustBeAsWords(t, "2.5 "+op+" "+prefix+" 1 "+op+" 2")
		}
	}
}

// P8.2

func TestNumbers(t *testing.T) {
	mustBe(t, 42, "42", "042", "42.0")
	mustBeFraction(t, 1, 8, "0.125", "0.12500")
	mustBeFraction(t, 999999999, 2, "499999999.5")
	mustFail(t, api.ErrOverflow, "999999999.5", "500000000.5", "1.000000001", "123456789.123456789", "-999999999.5", "(999999999.5)", "not 999999999.5", "1 or 999999999.5", "0 * 999999999.5")
}

func TestArithmetic(t *testing.T) {
	mustBe(t, 5, "2 + 3", "8 - 3", "2.5 * 2", "10 / 2", "11 mod 6", "-7 mod 12")
	mustBeFraction(t, 5, 6, "1 / 2 + 1 / 3", "5 / 6", "1 - 1 / 6", "5 / 2 / 3", "2.5 / 3", "(1/2) / (3/5)")
	mustBeFraction(t, -1, 3, "-1 / 3", "1 / -3", "-(1 / 3)", "2 / 3 - 1", "0 - 1 / 3")
	mustBe(t, most, "999999999 + 1", "10 ^ 9", "500000000 * 2", "+(10 ^ 9)", "1 / 0.000000001")
	mustBe(t, -most, "-999999999 - 1", "-10 ^ 9", "-(10 ^ 9)")
	mustBe(t, 2, "-7 mod 3", "5 mod 3", "2 mod 3", "(-1) mod 3")
	mustBe(t, -1, "5 mod -3", "-1 mod -3", "-7 mod -3", "2 mod -3")
	mustBeFraction(t, 3, 2, "7 / 2 mod 2", "3.5 mod 2", "-0.5 mod 2", "1.5 mod 999999999")
	mustBe(t, 0, "-0", "+0", "0 * -1", "0 / -5", "6 mod 3", "0 mod 7", "1 - 1", "999999999 mod 0.000000001", "0.0")
}

func TestArithmeticErrors(t *testing.T) {
	mustFail(t, api.ErrZero, "1/0", "0/0", "1 / 0.0", "1 / -0", "1 / (1 - 1)", "1 mod 0", "0 mod 0", "1 mod (2 - 2)", "1 / not 1", "1 / floor 0.5")
	mustFail(t, api.ErrOverflow, "10 ^ 9 + 1", "999999999 + 2", "-10 ^ 9 - 1", "100000 * 100000", "0.00001 * 0.00001", "10 ^ 9 / 0.5", "1 / 10 ^ 9 / 2", "1 / 999999999 + 1 / 999999998", "0.000000001 / 2", "-0.000000001 mod (1 / 999999999)", "10 ^ 9 + 0.5")
}

func TestFloor(t *testing.T) {
	mustBe(t, 3, "floor 3", "floor 3.5", "floor 3.99999999", "floor (10 / 3)", "floor 3.0")
	mustBe(t, -4, "floor -3.5", "floor -4", "floor (-10 / 3)", "floor -3.000000000 - 1", "-floor 4.5", "floor -3.1")
	mustBe(t, 0, "floor 0", "floor 0.5", "floor 0.000000001", "floor -0", "floor floor 0.5")
	mustBe(t, most, "floor (10 ^ 9)", "floor (999999999 + 1)")
	mustBe(t, -most, "floor -(10 ^ 9)")
	mustBe(t, -1, "floor -0.000000001", "floor (-1 / 999999999)")
}

func TestRound(t *testing.T) {
	mustBe(t, 3, "2.5 round 0", "3.4 round 0", "2.95 round 1", "3 round 0", "3 round 9", "2.5 round 0.0", "2.5 round -0", "2.5 round not 1")
	mustBe(t, -3, "-2.5 round 0", "-3.4 round 0", "(0 - 2.5) round 0")
	mustBeFraction(t, 67, 100, "(2 / 3) round 2", "0.665 round 2", "0.67 round 2", "0.67 round 9", "(2 / 3) round 2.0", "(2 / 3) round (1 + 1)")
	mustBeFraction(t, 333333333, most, "(1 / 3) round 9")
	mustBeFraction(t, 2, 3, "2 / 3 round 2")
	mustBe(t, 0, "0 round 0", "0 round 9", "0.4 round 0", "-0.04 round 1", "0.000000001 round 8")
	mustBe(t, 999999999, "999999999 round 9")
	mustBe(t, most, "(10 ^ 9) round 9", "(10 ^ 9) round 0")
	mustFail(t, api.ErrOverflow, "(1000000 / 7) round 9", "(100000000 / 7) round 2", "(-1000000 / 7) round 9", "(10 / 7) round 9")
}

func TestPlaces(t *testing.T) {
	for places := range 10 {
		mustBeAsWords(t, "(1 / 7) round "+string(rune('0'+places)))
		mustBe(t, 1, "1 round "+string(rune('0'+places)))
	}
	mustFail(t, api.ErrRange, "1 round 10", "0 round 10", "1 round 11", "1 round 999999999", "1 round (10 ^ 9)", "1 round -1", "1 round -9", "1 round -10", "1 round 0.5", "1 round 9.5", "1 round 8.99999999", "1 round 0.000000001", "1 round -0.5", "1 round (1 / 3)", "1 round (9 / 2)", "1 round (18 / 4)",
		"(1000000 / 7) round 10", "(1000000 / 7) round 8.5", "(1 / 3) round 10")
	mustBe(t, 1, "1 round 9.0", "1 round (18 / 2)", "1 round (4.5 * 2)")
}

func TestPower(t *testing.T) {
	mustBe(t, 1, "2 ^ 0", "0 ^ 0", "(-2) ^ 0", "0.5 ^ 0", "(1/3) ^ 0", "1 ^ 1", "1 ^ 30", "(-1) ^ 30", "(-1) ^ 2", "999999999 ^ 0", "1 ^ 30.0", "1 ^ (60 / 2)")
	mustBe(t, -1, "(-1) ^ 1", "(-1) ^ 29", "(-1) ^ 3")
	mustBe(t, 0, "0 ^ 1", "0 ^ 2", "0 ^ 30")
	mustBe(t, 536870912, "2 ^ 29")
	mustBe(t, -536870912, "(-2) ^ 29")
	mustBe(t, 8, "2 ^ 3", "2 ^ 3.0", "2.0 ^ 3", "2 ^ (1.5 * 2)", "2 ^ (6 / 2)", "8 ^ 1")
	mustBe(t, -most, "(-10) ^ 9")
	mustBe(t, 387420489, "3 ^ 18")
	mustBeFraction(t, 1, 4, "0.5 ^ 2", "(1 / 2) ^ 2", "(-0.5) ^ 2")
	mustBeFraction(t, 1, 536870912, "0.5 ^ 29")
	mustBeFraction(t, 1, most, "0.1 ^ 9")
	mustBeFraction(t, 262144, 387420489, "(2 / 3) ^ 18")
	mustBeFraction(t, -8, 27, "(-2 / 3) ^ 3")
	mustBe(t, 31622*31622, "31622 ^ 2")
	mustFail(t, api.ErrOverflow, "2 ^ 30", "(-2) ^ 30", "0.5 ^ 30", "10 ^ 10", "0.1 ^ 10", "3 ^ 19", "(2 / 3) ^ 19", "31623 ^ 2", "999999999 ^ 2", "999999999 ^ 30", "0.000000001 ^ 30")
}

func TestExponents(t *testing.T) {
	mustFail(t, api.ErrRange, "1 ^ 31", "0 ^ 31", "2 ^ 31", "999999999 ^ 31", "1 ^ 32", "1 ^ 64", "1 ^ 100", "1 ^ 999999999", "1 ^ (10 ^ 9)", "1 ^ 30.5", "1 ^ 29.9999999", "1 ^ 0.5", "1 ^ 0.000000001", "1 ^ -0.5", "1 ^ -1", "0 ^ -1", "2 ^ -30", "1 ^ -999999999", "1 ^ (1 / 3)", "4 ^ (1 / 2)", "1 ^ (61 / 2)")
}

func TestComparisons(t *testing.T) {
	pairs := []struct {
		a, b  string
		order int
	}{
		{"1", "2", -1}, {"2", "1", 1}, {"1", "1", 0}, {"-1", "1", -1}, {"-1", "-2", 1}, {"0", "-0", 0}, {"0.5", "1 / 2", 0}, {"1 / 3", "0.333333333", 1}, {"1 / 3", "0.333333334", -1},
		{"10 ^ 9", "-10 ^ 9", 1}, {"0.000000001", "0", 1}, {"0", "0.000000001", -1}, {"2 + 2", "2 * 2", 0}, {"999999999", "10 ^ 9", -1}, {"2 / 4", "3 / 6", 0}, {"1.50", "1.5", 0},
	}
	for _, x := range pairs {
		for op, holds := range map[string]bool{"=": x.order == 0, "<>": x.order != 0, "<": x.order < 0, ">": x.order > 0, "<=": x.order <= 0, ">=": x.order >= 0} {
			want := 0
			if holds {
				want = 1
			}
			mustBe(t, want, x.a+op+x.b, x.a+" "+op+" "+x.b, "("+x.a+") "+op+" ("+x.b+")", "("+x.a+op+x.b+") and 1")
		}
	}
}

func TestTruth(t *testing.T) {
	values := []struct {
		s     string
		truth int
	}{{"0", 0}, {"-0", 0}, {"0.0", 0}, {"1 - 1", 0}, {"1", 1}, {"2", 1}, {"-1", 1}, {"0.5", 1}, {"0.000000001", 1}, {"-0.5", 1}, {"1 / 3", 1}, {"10 ^ 9", 1}, {"-10 ^ 9", 1}}
	for _, a := range values {
		mustBe(t, 1-a.truth, "not ("+a.s+")", "not not not ("+a.s+")")
		mustBe(t, a.truth, "not not ("+a.s+")")
		for _, b := range values {
			mustBe(t, a.truth*b.truth, a.s+" and "+b.s, "("+a.s+") and ("+b.s+")")
			mustBe(t, max(a.truth, b.truth), a.s+" or "+b.s, "("+a.s+") or ("+b.s+")")
		}
	}
}

func TestBothOperandsAreEvaluated(t *testing.T) {
	mustFail(t, api.ErrZero, "0 and 1/0", "1 and 1/0", "1 or 1/0", "0 or 1/0", "1/0 and 0", "1/0 or 1", "0 * (1/0)", "(1/0) * 0", "(1/0) ^ 0", "0 ^ (1/0)", "1 ^ (1/0)", "0 mod (1/0)", "0 / (1/0)", "1 round (1/0)", "(1/0) round 0", "1/0 = 1/0", "1/0 <> 1", "1 < 1/0", "1 or 1 or 1/0", "0 and (0 and 1/0)")
	for _, op := range binary() {
		mustFail(t, api.ErrZero, "(1/0) "+op+" 1", "1 "+op+" (1/0)", "0 "+op+" (1 mod 0)", "(1/0) "+op+" (2 ^ 31)", "(1 mod 0) "+op+" 999999999.5")
		mustFail(t, api.ErrRange, "(2 ^ 31) "+op+" (1/0)", "(1 round 10) "+op+" 999999999.5", "0 "+op+" (2 ^ 31)", "1 "+op+" (1 round 0.5)")
		mustFail(t, api.ErrOverflow, "(10 ^ 10) "+op+" (1/0)", "999999999.5 "+op+" (2 ^ 31)", "0 "+op+" 999999999.5", "1 "+op+" (10 ^ 10)")
	}
	for _, op := range prefixes() {
		mustFail(t, api.ErrZero, op+" (1/0)", op+" "+op+" (0 mod 0)")
		mustFail(t, api.ErrRange, op+" (1 ^ 31)")
		mustFail(t, api.ErrOverflow, op+" 999999999.5")
	}
}

// P8.3

func TestErrorsOfTheEvaluationInOrder(t *testing.T) {
	mustFail(t, api.ErrZero, "1/0 + 10 ^ 10", "1/0 + 2 ^ 31", "1/0/0 + 999999999.5", "(1/0) ^ 31", "(1/0) round 10", "(1/0) ^ (1 / 3)", "1 + 1/0 + 2 ^ 31", "1 / (1/0 - 2 ^ 31)", "2 ^ (1/0) ^ 31")
	mustFail(t, api.ErrOverflow, "10 ^ 10 + 1/0", "10 ^ 10 + 2 ^ 31", "999999999.5 / 0", "999999999.5 mod 0", "999999999.5 ^ 31", "999999999.5 round 10", "1 / (999999999 + 2) / 0", "999999999 + 999999999 - 1/0", "1 round 999999999.5", "2 ^ 10 ^ 10")
	mustFail(t, api.ErrRange, "2 ^ 31 + 1/0", "2 ^ 31 + 10 ^ 10", "2 ^ -1 / 0", "2 ^ 31 ^ 1 / 0", "1 round 10 round (1/0)", "(1 ^ 31) / 0", "1 ^ 31 / 0", "2 ^ 2 ^ 31", "2 ^ 31 - 999999999.5")
}

func TestLengths(t *testing.T) {
	mustBe(t, 1, "1"+strings.Repeat(" ", maxBytes-1), strings.Repeat(" ", maxBytes-1)+"1", strings.Repeat("\n", maxBytes-2)+"1\t")
	terms := "000000001.000000000" + strings.Repeat("+000000001.000000000", maxLevels-1)
	mustBe(t, maxLevels, terms+strings.Repeat(" ", maxBytes-len(terms)))
	mustFail(t, api.ErrTooLarge, terms+strings.Repeat(" ", maxBytes+1-len(terms)))
	mustFail(t, api.ErrTooLarge, "1"+strings.Repeat(" ", maxBytes), strings.Repeat(" ", maxBytes)+"1", strings.Repeat(" ", maxBytes+1), strings.Repeat("\n", maxBytes+1)+"1")
	for _, s := range []string{"1", "(", ")", "-", "+1", "1+", "^", "1^", "#", "x", "not", "floor ", ".", "1/0+", "\xff", "\x00", "\u00e9"} {
		for _, size := range []int{maxBytes + 1, maxBytes + 2, 2 * maxBytes, 8192, 1 << 18} {
			mustFail(t, api.ErrTooLarge, strings.Repeat(s, size)[:size])
		}
		mustBeAsWords(t, strings.Repeat(s, maxBytes)[:maxBytes])
		mustBeAsWords(t, strings.Repeat(s, maxBytes)[:maxBytes-1])
	}
	mustFail(t, api.ErrSyntax, strings.Repeat("#", maxBytes), strings.Repeat("(", maxBytes), strings.Repeat("-", maxBytes), strings.Repeat("1 ", maxBytes/2), strings.Repeat(" ", maxBytes))
	mustFail(t, api.ErrDepth, strings.Repeat("-", maxBytes-1)+"1", within("1", (maxBytes-1)/2), strings.Repeat("1+", maxBytes/2-1)+"1", strings.Repeat("1^", maxBytes/2-1)+"1")
}

func TestLevelsOfChains(t *testing.T) {
	for _, op := range append(chains(), "^") {
		s := "1" + strings.Repeat(" "+op+" 1", maxLevels-1)
		mustFit(t, s)
		mustFail(t, api.ErrDepth, s+" "+op+" 1", "("+s+")", "+("+s+")", s+" "+op+" -1", "-"+s)
	}
	mustBe(t, 20, "1"+strings.Repeat("+1", 19))
	mustBe(t, -18, "1"+strings.Repeat("-1", 19))
	mustBe(t, 20, "1"+strings.Repeat("+1", 18)+"+-(-(1))")
	mustFail(t, api.ErrDepth, "1"+strings.Repeat("+1", 20), "-1"+strings.Repeat("+1", 19), "(1)"+strings.Repeat("+1", 19))
	// The first operand is the deepest of a chain to the left, the last one of a chain to the right.
	mustBe(t, 1, "1"+strings.Repeat("^1", 18)+"^1", "(1)"+strings.Repeat("^1", 19))
	mustFail(t, api.ErrDepth, "1"+strings.Repeat("^1", 18)+"^-1", "1"+strings.Repeat("^1", 19)+"^1", "1"+strings.Repeat("^1", 18)+"^(1)")
}

func TestLevelsOfPrefixes(t *testing.T) {
	for _, op := range prefixes() {
		s := strings.Repeat(op+" ", maxLevels-1) + "1"
		mustFit(t, s)
		mustFail(t, api.ErrDepth, "+"+s, "not "+s, "("+s+")", s+"*1", s+"^1", "1 or "+s)
	}
	mustFit(t, "+"+strings.Repeat("- not ", 9)+"1")
	mustFail(t, api.ErrDepth, "+"+strings.Repeat("- not ", 9)+"-1", "+"+strings.Repeat("floor - ", 9)+"(1)")
	mustBe(t, -1, strings.Repeat("-", maxLevels-1)+"1")
	mustFail(t, api.ErrDepth, strings.Repeat("-", maxLevels)+"1", strings.Repeat("-", 100)+"1")
}

func TestLevelsOfParentheses(t *testing.T) {
	mustBe(t, 1, within("1", maxLevels-1), within("1+0", maxLevels-2), within("-(-1)", maxLevels-4))
	mustFail(t, api.ErrDepth, within("1", maxLevels), within("1", maxLevels+1), within("1", 100), within("1+0", maxLevels-1), within("-1", maxLevels-1))
}

func TestLevelsOfEachOperand(t *testing.T) {
	fits, deep := within("1", maxLevels-2), within("1", maxLevels-1)
	for _, op := range binary() {
		for _, s := range []string{fits + op + "1", "1 " + op + fits, fits + op + fits, "(1)" + op + fits, fits + op + "(1)"} {
			mustFit(t, s)
		}
		mustFail(t, api.ErrDepth, deep+op+"1", "1 "+op+deep, deep+op+deep, fits+op+deep, deep+op+fits, "-"+fits+op+"1", "1 "+op+"-"+fits, "("+fits+op+"1)")
	}
}

func TestLevelsOfComparisons(t *testing.T) {
	for _, op := range comparisons() {
		// Each round adds the levels of the parentheses and of the comparison to the two of +1.
		s := "+1"
		for range 9 {
			s = "(" + s + ")" + op + "1"
		}
		mustFit(t, s)
		mustFail(t, api.ErrDepth, strings.Replace(s, "+1", "++1", 1), "-("+s+")", "("+s+")", "1 and "+s)
	}
}

func TestErrorsInOrder(t *testing.T) {
	mustFail(t, api.ErrTooLarge, strings.Repeat("#", maxBytes+1), strings.Repeat("1+", maxBytes)+"1", strings.Repeat("1/0+", maxBytes)+"1", within("1/0", maxBytes))
	mustFail(t, api.ErrSyntax, "1 / 0 + (", "1/0 #", "1/0 x", "1/0 1", "1/0)", "2 ^ 31 +", "999999999.5 +", "1/0 + 1234567890", "1/0 + 0.1234567890", "2 ^ 31 + 0.1234567890", "1/0 + 1.", strings.Repeat("-", 30)+"1234567890", strings.Repeat("-", 30)+"0.1234567890", strings.Repeat("-", 30), strings.Repeat("-", 30)+"1)", strings.Repeat("-", 30)+"1 #", within("", 30), "("+within("1", 30), within("1", 30)+"1", within("1/0", 30)+"x", "1"+strings.Repeat("+1", 30)+"+", "1"+strings.Repeat("+1", 30)+"+modx")
	mustFail(t, api.ErrDepth, "1/0"+strings.Repeat("+1", 20), "2^31"+strings.Repeat("+1", 20), "999999999.5"+strings.Repeat("+1", 20), within("1/0", 30), strings.Repeat("-", 20)+"999999999.5", "1/0 + "+strings.Repeat("-", 20)+"1")
}

// All three, on many texts

func TestAllShortTexts(t *testing.T) {
	for _, x := range []struct {
		n      int
		pieces []string
	}{
		{4, []string{"1", "0", "2.5", "+", "-", "*", "/", "^", "(", ")", "=", "<", ">", "<=", "<>", " mod ", " and ", " or ", " not ", " round ", " floor "}},
		{6, []string{"2", "0.5", "-", "^", "(", ")", " floor "}},
		{6, []string{"3", "2", " mod ", "/", "-", "*", " round "}},
		{6, []string{"0", "1", " and ", " or ", " not ", "=", "<"}},
		{6, []string{"1", ".", " ", "<", ">", "=", "-"}},
		{6, []string{"1", "no", "t", "mo", "d", "or", " "}},
	} {
		sample.Texts(x.n, x.pieces, func(s string) { mustBeAsWords(t, s) })
	}
}

// randomPick returns one of the strings.
func randomPick(random *rand.Rand, l ...string) string { return l[random.Intn(len(l))] }

// randomFormula returns the text of a formula of at most so many operators in one another; only a comparison beside another one makes it none.
func randomFormula(random *rand.Rand, depth int) string {
	if depth == 0 || random.Intn(8) == 0 {
		return randomPick(random, "0", "1", "2", "3", "4", "7", "9", "30", "0.5", "1.5", "2.25", "100", "99999.9", "999999999")
	}
	a := randomFormula(random, depth-1)
	switch random.Intn(6) {
	case 0:
		return randomPick(random, prefixes()...) + " " + a
	case 1, 2:
		return randomPick(random, "(", "( ", "\n(") + a + randomPick(random, ")", " )", ")\t")
	}
	blank := randomPick(random, " ", "\t", "\n", "  ")
	return a + blank + randomPick(random, binary()...) + blank + randomFormula(random, depth-1)
}

func TestRandomFormulas(t *testing.T) {
	random := rand.New(rand.NewSource(8))
	seen := map[api.Errno]int{}
	for range 6000 {
		s := randomFormula(random, 1+random.Intn(6))
		mustBeAsWords(t, s)
		_, err := Eval(s)
		seen[err]++
		i := random.Intn(len(s))
		mustBeAsWords(t, s[:i]+s[i+1:])
		mustBeAsWords(t, s[:i]+randomPick(random, "1", "-", "(", ")", "^", " ", ".", "not ", "\xff")+s[i:])
	}
	for _, err := range []api.Errno{api.OK, api.ErrSyntax, api.ErrRange, api.ErrZero, api.ErrOverflow} {
		if seen[err] < 100 {
			t.Errorf("only %d of the formulas have the error %v", seen[err], err)
		}
	}
}

func TestRandomTokens(t *testing.T) {
	random := rand.New(rand.NewSource(8))
	pieces := append(append(binary(), prefixes()...), "(", ")", "(1)", "0", "1", "2.5", "9", "x", ".", "#", "\xff")
	for range 6000 {
		var b strings.Builder
		for range random.Intn(30) {
			b.WriteString(randomPick(random, pieces...))
			b.WriteString(randomPick(random, "", " "))
		}
		mustBeAsWords(t, b.String())
	}
}
