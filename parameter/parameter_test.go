package parameter

import (
	"fmt"
	"math/rand"
	"slices"
	"strings"
	"testing"

	"transclude/api"
	"transclude/sample"
	"transclude/strfunc"
)

// most is MaxArgs, written anew so that the tests fix its value.
const most = 40

func positional(text string) api.Value { return api.Value{Text: text} }

func named(name, text string) api.Value { return api.Value{Named: true, Name: name, Text: text} }

func args(l ...api.Value) []api.Value { return l }

// bindings makes a list of names and texts in turn.
func bindings(l ...string) []api.Binding {
	var made []api.Binding
	for pair := range slices.Chunk(l, 2) {
		made = append(made, api.Binding{Name: pair[0], Text: pair[1]})
	}
	return made
}

func byName(a, b api.Binding) int { return strings.Compare(a.Name, b.Name) }

// mustGive checks what Bind returns, and that it leaves the arguments alone.
func mustGive(t *testing.T, l []api.Value, want []api.Binding, wantErr api.Errno) {
	t.Helper()
	before := slices.Clone(l)
	got, err := Bind(l)
	if !slices.Equal(got, want) || err != wantErr {
		t.Fatalf("Bind(%.999q) = %.999q, %v, want %.999q, %v", fmt.Sprint(l), fmt.Sprint(got), err, fmt.Sprint(want), wantErr)
	}
	if !slices.Equal(l, before) {
		t.Fatalf("Bind(%.999q) has changed its argument to %.999q", fmt.Sprint(before), fmt.Sprint(l))
	}
}

// mustBind checks the names and texts, in turn, that the arguments give.
func mustBind(t *testing.T, l []api.Value, want ...string) {
	t.Helper()
	mustGive(t, l, bindings(want...), api.OK)
}

func mustExceed(t *testing.T, l []api.Value) {
	t.Helper()
	mustGive(t, l, nil, api.ErrLimit)
}

func mustLookUp(t *testing.T, l []api.Binding, name, want string, wantOK bool) {
	t.Helper()
	before := slices.Clone(l)
	if got, ok := Get(l, name); got != want || ok != wantOK {
		t.Fatalf("Get(%.999q, %.99q) = %.99q, %v, want %.99q, %v", fmt.Sprint(l), name, got, ok, want, wantOK)
	}
	if !slices.Equal(l, before) {
		t.Fatalf("Get(%.999q, %.99q) has changed its argument to %.999q", fmt.Sprint(before), name, fmt.Sprint(l))
	}
}

// mustGet checks that the list has a text for the names.
func mustGet(t *testing.T, l []api.Binding, want string, names ...string) {
	t.Helper()
	for _, name := range names {
		mustLookUp(t, l, name, want, true)
	}
}

// mustLack checks that the list has no text for the names.
func mustLack(t *testing.T, l []api.Binding, names ...string) {
	t.Helper()
	for _, name := range names {
		mustLookUp(t, l, name, "", false)
	}
}

func mustName(t *testing.T, l []api.Binding, want ...string) {
	t.Helper()
	before := slices.Clone(l)
	if got := Names(l); !slices.Equal(got, want) {
		t.Fatalf("Names(%.999q) = %.999q, want %.999q", fmt.Sprint(l), got, want)
	}
	if !slices.Equal(l, before) {
		t.Fatalf("Names(%.999q) has changed its argument to %.999q", fmt.Sprint(before), fmt.Sprint(l))
	}
}

// eachByte returns the texts of one byte.
func eachByte() []string {
	var l []string
	for c := range 256 {
		l = append(l, string([]byte{byte(c)}))
	}
	return l
}

// otherBlanks are texts that look blank, but that Trim leaves.
func otherBlanks() []string {
	return []string{"\v", "\f", "\x00", "\x85", "\xa0", "\u0085", "\u00a0", "\u2003", "\u2028", "\u3000", "\ufeff"}
}

// Reading the chapter by its words.

// wordsName returns the name of the parameter that argument i gives.
func wordsName(l []api.Value, i int) string {
	if l[i].Named {
		return strfunc.Trim(l[i].Name)
	}
	number := 0
	for _, v := range l[:i+1] {
		if !v.Named {
			number++
		}
	}
	return fmt.Sprint(number)
}

// wordsText returns the text of the parameter that an argument gives.
func wordsText(v api.Value) string {
	if v.Named {
		return strfunc.Trim(v.Text)
	}
	return v.Text
}

// wordsBind returns the parameters of the arguments after which no other one gives the same parameter.
func wordsBind(l []api.Value) []api.Binding {
	var want []api.Binding
	for i, v := range l {
		name, last := wordsName(l, i), true
		for j := i + 1; j < len(l); j++ {
			last = last && wordsName(l, j) != name
		}
		if last {
			want = append(want, api.Binding{Name: name, Text: wordsText(v)})
		}
	}
	slices.SortFunc(want, byName)
	return want
}

// mustBindAsWords checks Bind, and Get and Names of what it returns.
func mustBindAsWords(t *testing.T, l []api.Value) {
	t.Helper()
	want := wordsBind(l)
	mustGive(t, l, want, api.OK)
	var names []string
	for _, b := range want {
		names = append(names, b.Name)
		mustGet(t, want, b.Text, b.Name, " \t"+b.Name+"\r\n")
	}
	mustName(t, want, names...)
	mustLack(t, want, "no such name")
}

// The examples

func TestExamples(t *testing.T) {
	mustBind(t, args(positional("a"), named(" 1 ", " b "), positional("c")), "1", "b", "2", "c")
}

// P10.1

func TestBindNothing(t *testing.T) {
	mustBind(t, nil)
	mustBind(t, args())
}

func TestBindPositional(t *testing.T) {
	mustBind(t, args(positional("a")), "1", "a")
	mustBind(t, args(positional("a"), positional("b"), positional("c")), "1", "a", "2", "b", "3", "c")
	mustBind(t, args(positional("a"), positional("a")), "1", "a", "2", "a")
	mustBind(t, args(positional(""), positional("a"), positional("")), "1", "", "2", "a", "3", "")
}

func TestBindNamed(t *testing.T) {
	mustBind(t, args(named("a", "x")), "a", "x")
	mustBind(t, args(named("b", "x"), named("a", "y"), named("c", "z")), "a", "y", "b", "x", "c", "z")
	mustBind(t, args(named("Two words", "x = y")), "Two words", "x = y")
	mustBind(t, args(named("a", "x"), named("A", "y"), named("\u00e9", "z"), named("e\u0301", "w")), "A", "y", "a", "x", "e\u0301", "w", "\u00e9", "z")
}

func TestBindPositionalBetweenNamed(t *testing.T) {
	mustBind(t, args(named("a", "x"), positional("p"), named("b", "y"), positional("q"), named("c", "z")), "1", "p", "2", "q", "a", "x", "b", "y", "c", "z")
	mustBind(t, args(positional("p"), named("a", "x"), named("b", "y"), positional("q"), positional("r")), "1", "p", "2", "q", "3", "r", "a", "x", "b", "y")
	// Neither does a Named one count that a number names.
	mustBind(t, args(named("5", "x"), positional("p")), "1", "p", "5", "x")
	mustBind(t, args(named("1", "x"), named("2", "y"), positional("p")), "1", "p", "2", "y")
	mustBind(t, args(positional("p"), named("2", "x"), named("3", "y"), positional("q")), "1", "p", "2", "q", "3", "y")
}

func TestBindLastCounts(t *testing.T) {
	mustBind(t, args(named("a", "x"), named("a", "y")), "a", "y")
	mustBind(t, args(named("a", "y"), named("a", "x")), "a", "x")
	mustBind(t, args(named("a", "x"), named("b", "y"), named("a", "z")), "a", "z", "b", "y")
	mustBind(t, args(named("a", "x"), named("a", "y"), named("a", "x")), "a", "x")
	mustBind(t, args(named("a", "x"), named("a", "y"), named("b", "z"), named("b", "")), "a", "y", "b", "")
	mustBind(t, args(named("a", "x"), named("a", "")), "a", "")
	mustBind(t, args(named("a", "x"), named("a", " ")), "a", "")
	// Not the greatest text, and not the longest one.
	mustBind(t, args(named("a", "zzz"), named("a", "y")), "a", "y")
}

func TestBindNumberAndPositional(t *testing.T) {
	mustBind(t, args(named("1", " x "), positional(" p ")), "1", " p ")
	mustBind(t, args(positional(" p "), named("1", " x ")), "1", "x")
	mustBind(t, args(positional("p"), named("2", "x"), positional(" q ")), "1", "p", "2", " q ")
	mustBind(t, args(positional("p"), positional("q"), named("2", "x")), "1", "p", "2", "x")
	mustBind(t, args(positional("p"), named("1", "x"), named("1", "y")), "1", "y")
	mustBind(t, args(named("1", "x"), positional("p"), named("1", "y"), positional("q")), "1", "y", "2", "q")
	mustBind(t, args(named("1", "x"), positional("")), "1", "")
	mustBind(t, args(positional("p"), named("1", "")), "1", "")
	mustBind(t, args(named(" 1\n", "x"), positional("p")), "1", "p")
	mustBind(t, args(positional("p"), named("\t1 ", "x")), "1", "x")
}

// Names are texts: only "1" names the first positional argument.
func TestBindOtherNumbers(t *testing.T) {
	for _, name := range []string{"0", "-1", "+1", "01", "1.", "1.0", "1 1", "1\x00", "\uff11", "\u0661", "0x1", "1e0"} {
		want := slices.SortedFunc(slices.Values(bindings("1", "p", name, "x")), byName)
		mustGive(t, args(named(name, "x"), positional("p")), want, api.OK)
		mustGive(t, args(positional("p"), named(name, "x")), want, api.OK)
	}
}

func TestBindNamesEqualAfterTrim(t *testing.T) {
	mustBind(t, args(named("a", "x"), named(" a ", "y")), "a", "y")
	mustBind(t, args(named(" a ", "x"), named("a", "y")), "a", "y")
	mustBind(t, args(named("\ta", "x"), named("a\n", "y"), named("\r\na", "z")), "a", "z")
	mustBind(t, args(named(" ", "x"), named("", "y"), named("\t\n\r ", "z")), "", "z")
	mustBind(t, args(named("a b", "x"), named("a  b", "y"), named(" a b", "z")), "a  b", "y", "a b", "z")
	for _, blank := range otherBlanks() {
		mustBind(t, args(named("a", "x"), named("a"+blank, "y")), "a", "x", "a"+blank, "y")
	}
}

func TestBindTrimsNamed(t *testing.T) {
	mustBind(t, args(named(" a ", " x ")), "a", "x")
	mustBind(t, args(named("\r\n\ta \t", "\n\n x y \r\n")), "a", "x y")
	mustBind(t, args(named("a", " \t\r\n")), "a", "")
	for _, blank := range otherBlanks() {
		mustBind(t, args(named(blank+"a"+blank, " "+blank+"x"+blank+" ")), blank+"a"+blank, blank+"x"+blank)
	}
}

func TestBindKeepsPositional(t *testing.T) {
	for _, text := range []string{" a ", "\ta\n", "\r\na", "a\r", " ", "\n", " \t\r\n", " a=b ", "  a  b  "} {
		mustBind(t, args(positional(text)), "1", text)
		mustBind(t, args(positional(text), named("a", "x"), positional(text)), "1", text, "2", text, "a", "x")
	}
}

func TestBindIgnoresNameOfPositional(t *testing.T) {
	for _, name := range []string{"a", "2", "1", " 2 ", "", "\xff", "10"} {
		mustBind(t, args(api.Value{Name: name, Text: " p "}, positional("q")), "1", " p ", "2", "q")
		mustBind(t, args(positional("q"), api.Value{Name: name, Text: " p "}), "1", "q", "2", " p ")
	}
	mustBind(t, args(named("a", "x"), api.Value{Name: "a", Text: "p"}), "1", "p", "a", "x")
	mustBind(t, args(api.Value{Name: "a", Text: "p"}, api.Value{Name: "a", Text: "q"}), "1", "p", "2", "q")
}

func TestBindEmpty(t *testing.T) {
	mustBind(t, args(named("", "")), "", "")
	mustBind(t, args(named("", "x")), "", "x")
	mustBind(t, args(named("a", "")), "a", "")
	mustBind(t, args(positional("")), "1", "")
	mustBind(t, args(named(" \n", " \t")), "", "")
	mustBind(t, args(named("", "x"), positional(""), named("", "y")), "", "y", "1", "")
	mustBind(t, args(api.Value{}), "1", "")
}

func TestBindOrder(t *testing.T) {
	var l []api.Value
	for i := 1; i <= 12; i++ {
		l = append(l, positional(fmt.Sprint("p", i)))
	}
	mustBind(t, l, "1", "p1", "10", "p10", "11", "p11", "12", "p12", "2", "p2", "3", "p3", "4", "p4", "5", "p5", "6", "p6", "7", "p7", "8", "p8", "9", "p9")
	mustBind(t, args(named("2", "x"), named("10", "y"), named("1", "z")), "1", "z", "10", "y", "2", "x")
	mustBind(t, args(named("a", ""), named("B", ""), named("b", ""), named("A", "")), "A", "", "B", "", "a", "", "b", "")
	mustBind(t, args(named("ab", ""), named("a", ""), named("a b", ""), named("", "")), "", "", "a", "", "a b", "", "ab", "")
	mustBind(t, args(named("\xff", ""), named("\U0001f600", ""), named("\uffff", ""), named("\x80", ""), named("\x00", ""), named("~", "")),
		"\x00", "", "~", "", "\x80", "", "\uffff", "", "\U0001f600", "", "\xff", "")
	mustBind(t, args(named("a-", ""), named("a", ""), positional(""), named("-1", ""), named("0", "")), "-1", "", "0", "", "1", "", "a", "", "a-", "")
}

func TestBindSortsAfterTrim(t *testing.T) {
	mustBind(t, args(named(" b", "x"), named("a", "y")), "a", "y", "b", "x")
	mustBind(t, args(named("a", "x"), named("\tb", "y"), positional("p"), named("\n0", "z")), "0", "z", "1", "p", "a", "x", "b", "y")
}

func TestBindEachByte(t *testing.T) {
	for _, b := range eachByte() {
		mustBind(t, args(positional(b), positional(b+"x"+b)), "1", b, "2", b+"x"+b)
		trimmed := b
		if strings.Contains("\t\n\r ", b) {
			trimmed = ""
		}
		mustBind(t, args(named("a"+b+"c", "x"+b+"y")), "a"+b+"c", "x"+b+"y")
		mustBind(t, args(named(b+"a"+b, b+"x"+b)), trimmed+"a"+trimmed, trimmed+"x"+trimmed)
		mustBind(t, args(named(b, b)), trimmed, trimmed)
		mustBindAsWords(t, args(named("m", "x"), named(b, b), positional(b)))
	}
}

func TestBindAnyTexts(t *testing.T) {
	long := strings.Repeat("\xff\n ", api.MaxString)
	for _, s := range []string{"=", "|", "{{{1}}}", "[[a]]", "\xc3", "\xe2\x82", "\xed\xa0\x80", "\xff\xfe", "\ufffd", "a\x00b", "a\nb", "x" + long + "x"} {
		mustBind(t, args(positional(" "+s+" ")), "1", " "+s+" ")
		mustBind(t, args(named(" "+s+" ", " "+s+" ")), s, s)
		mustBindAsWords(t, args(positional(s), named(s, s+"x"), named(s+"a", s)))
	}
}

func TestBindLimit(t *testing.T) {
	for _, v := range args(positional("p"), positional(""), named("a", "x"), named("", ""), named("1", "x")) {
		l := slices.Repeat(args(v), most)
		mustBindAsWords(t, l)
		mustBindAsWords(t, l[:most-1])
		for _, more := range args(v, positional("q"), named("b", "y"), api.Value{}) {
			mustExceed(t, append(slices.Clone(l), more))
			mustExceed(t, append(args(more), l...))
		}
		mustExceed(t, slices.Repeat(l, 2))
		mustExceed(t, slices.Repeat(l, 1000))
	}
	mustBind(t, slices.Repeat(args(named("a", "x")), most), "a", "x")
	if got, err := Bind(slices.Repeat(args(positional("p")), most)); len(got) != most || err != api.OK {
		t.Errorf("Bind of %d arguments returns %d parameters, %v", most, len(got), err)
	}
}

func TestBindManyNames(t *testing.T) {
	var l []api.Value
	for i := range most {
		l = append(l, named(strings.Repeat("n", most-i), fmt.Sprint(i)))
	}
	mustBindAsWords(t, l)
	mustExceed(t, append(l, named("m", "x")))
}

func TestBindAllShortLists(t *testing.T) {
	pieces := args(positional("a"), positional(" b\n"), api.Value{Name: "2", Text: ""}, named("1", " x "), named(" 2", "y"), named("3\n", ""), named("", "z"), named(" ", "w"))
	sample.Lists(5, pieces, func(l []api.Value) { mustBindAsWords(t, l) })
}

func TestBindRandomLists(t *testing.T) {
	random := rand.New(rand.NewSource(10))
	texts := []string{"", " ", "a", " a", "a ", "\ta\n", "A", "b", "1", " 1", "2", "9", "10", " 11 ", "40", "01", "\xff", "\u00e9 "}
	for range 5000 {
		var l []api.Value
		for range random.Intn(most + 1) {
			l = append(l, api.Value{Named: random.Intn(2) == 0, Name: texts[random.Intn(len(texts))], Text: texts[random.Intn(len(texts))]})
		}
		mustBindAsWords(t, l)
	}
}

// P10.2

func TestGet(t *testing.T) {
	l := bindings("1", "p", "a", "x", "b", "y")
	mustGet(t, l, "p", "1")
	mustGet(t, l, "x", "a")
	mustGet(t, l, "y", "b")
	mustLack(t, l, "", " ", "c", "A", "ab", "2", "01", "+1", "1.0", "p", "x", "\u00e4", "a\x00", "a b")
}

func TestGetTrimsName(t *testing.T) {
	l := bindings("1", "p", "a b", "x", "", "y")
	mustGet(t, l, "p", " 1", "1 ", "\t1\n", "\r\n1\r\n", "  1  ")
	mustGet(t, l, "x", "a b", " a b ", "\na b")
	mustGet(t, l, "y", "", " ", "\t", "\n", "\r", " \t\r\n")
	mustLack(t, l, "a  b", "ab", "a\tb")
	for _, blank := range otherBlanks() {
		mustLack(t, l, blank, blank+"1", "1"+blank, "a b"+blank)
	}
}

func TestGetOfNamesWithBlanks(t *testing.T) {
	l := bindings(" a", "1", "b ", "2", " ", "3", "\tc\n", "4")
	mustLack(t, l, "a", " a", "b", "b ", "", " ", "c", "\tc\n")
	mustGet(t, append(l, bindings("a", "5", "", "6")...), "5", "a", " a")
	mustGet(t, append(l, bindings("a", "5", "", "6")...), "6", "", " ")
	for _, blank := range otherBlanks() {
		mustGet(t, bindings(blank, "x"), "x", blank, " "+blank+" ")
	}
}

func TestGetFirst(t *testing.T) {
	mustGet(t, bindings("a", "1", "a", "2"), "1", "a")
	mustGet(t, bindings("a", "2", "a", "1"), "2", "a")
	mustGet(t, bindings("b", "1", "a", "2", "b", "3", "a", "4"), "2", "a")
	mustGet(t, bindings("b", "1", "a", "", "b", "3", "a", "4"), "", "a")
	mustGet(t, bindings("", "", "", "x"), "", "")
	mustGet(t, bindings(" a", "1", "a", "2", "a", "3"), "2", "a", " a")
}

func TestGetNotSorted(t *testing.T) {
	l := bindings("z", "1", "b", "2", "10", "3", "y", "4", "2", "5", "a", "6", "", "7", "c", "8")
	for i, b := range l {
		mustGet(t, l, fmt.Sprint(i+1), b.Name)
		mustLack(t, slices.Delete(slices.Clone(l), i, i+1), b.Name)
	}
}

func TestGetKeepsText(t *testing.T) {
	for _, text := range []string{"", " ", " x ", "\nx\r", "\xff", "\x00", strings.Repeat(" x", api.MaxString)} {
		mustGet(t, bindings("a", text), text, "a")
	}
}

func TestGetNone(t *testing.T) {
	for _, name := range []string{"", " ", "a", "1", "\xff", strings.Repeat("a", api.MaxString)} {
		mustLack(t, nil, name)
		mustLack(t, []api.Binding{}, name)
		mustLack(t, bindings("b", "x"), name)
	}
	mustLack(t, []api.Binding{{}}, "a")
	mustGet(t, []api.Binding{{}}, "", "")
}

func TestGetEachByte(t *testing.T) {
	var l []api.Binding
	for i, b := range eachByte() {
		l = append(l, api.Binding{Name: "n" + b + "n", Text: fmt.Sprint(i)})
	}
	for i, b := range eachByte() {
		mustGet(t, l, fmt.Sprint(i), "n"+b+"n", " n"+b+"n\n")
		if strings.Contains("\t\n\r ", b) {
			mustGet(t, bindings(b, "x", "", "y"), "y", b)
			continue
		}
		mustGet(t, bindings("", "x", b, "y"), "y", b)
	}
}

// long is a list of more than MaxArgs elements, of which two at a time have the same name.
func long() []api.Binding {
	var l []api.Binding
	for i := range 10 * most {
		l = append(l, api.Binding{Name: fmt.Sprint(i / 2), Text: fmt.Sprint("t", i)})
	}
	return l
}

func TestGetLongLists(t *testing.T) {
	for i := range 5 * most {
		mustGet(t, long(), fmt.Sprint("t", 2*i), fmt.Sprint(i))
	}
	mustLack(t, long(), fmt.Sprint(5*most), "", "-1")
}

func TestNames(t *testing.T) {
	mustName(t, nil)
	mustName(t, []api.Binding{})
	mustName(t, []api.Binding{{}}, "")
	mustName(t, bindings("a", "x"), "a")
	mustName(t, bindings("1", "p", "a", "x", "b", ""), "1", "a", "b")
	mustName(t, bindings("b", "1", "a", "2", "10", "3", "2", "4"), "b", "a", "10", "2")
	mustName(t, bindings("a", "1", "b", "2", "a", "1", "a", "3"), "a", "b", "a", "a")
	mustName(t, bindings(" a ", "1", "a", "2", "", "3", " ", "4", "\t\n", "5"), " a ", "a", "", " ", "\t\n")
	mustName(t, bindings("\xff", "1", "\x00", "2", "\u00e9", "3", "\xc3", "4", "A", "5", "a", "6"), "\xff", "\x00", "\u00e9", "\xc3", "A", "a")
}

func TestNamesOfLongLists(t *testing.T) {
	var want []string
	for i := range 10 * most {
		want = append(want, fmt.Sprint(i/2))
	}
	mustName(t, long(), want...)
	name := strings.Repeat("n ", api.MaxString)
	mustName(t, bindings(name, "x", name, "y"), name, name)
}

func TestGetAndNamesOfAllShortLists(t *testing.T) {
	pieces := bindings("a", "1", "a", "2", " a", "3", "", "4", " ", "5", "b", "", "\xff", "6")
	sample.Lists(4, pieces, func(l []api.Binding) {
		var names []string
		first := map[string]string{}
		for _, b := range slices.Backward(l) {
			names = append([]string{b.Name}, names...)
			first[b.Name] = b.Text
		}
		mustName(t, l, names...)
		for _, name := range []string{"a", "", "b", "c", "\xff", "\ufffd"} {
			want, ok := first[name]
			mustLookUp(t, l, name, want, ok)
			mustLookUp(t, l, "\n"+name+" ", want, ok)
		}
	})
}
