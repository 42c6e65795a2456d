package function

import (
	"fmt"
	"math/rand"
	"slices"
	"strings"
	"testing"

	"transclude/api"
	"transclude/calendar"
	"transclude/formula"
	"transclude/number"
	"transclude/sample"
	"transclude/strfunc"
)

// mostArgs, mostBytes and mostPattern are MaxArgs, MaxString and MaxFormula, written anew so that the tests fix their values.
const (
	mostArgs    = 40
	mostBytes   = 32768
	mostPattern = 400
)

// must checks what Call returns, and that it leaves the arguments alone.
func must(t *testing.T, name string, args []string, want string, wantErr api.Errno) {
	t.Helper()
	before := slices.Clone(args)
	got, err := Call(name, args)
	if got != want || err != wantErr {
		t.Fatalf("Call(%.99q, %.99q) = %.99q, %v, want %.99q, %v", name, args, got, err, want, wantErr)
	}
	if !slices.Equal(args, before) {
		t.Fatalf("Call(%.99q, %.99q) has changed its arguments to %.99q", name, before, args)
	}
}

// mustBe checks the result of a function.
func mustBe(t *testing.T, want, name string, args ...string) {
	t.Helper()
	must(t, name, args, want, api.OK)
}

// mustFail checks the error of a function.
func mustFail(t *testing.T, wantErr api.Errno, name string, args ...string) {
	t.Helper()
	must(t, name, args, "", wantErr)
}

// mustAgree checks that two lists of arguments have the same result, or the same error.
func mustAgree(t *testing.T, name string, args, others []string) {
	t.Helper()
	want, err := Call(name, others)
	must(t, name, args, want, err)
}

func l(texts ...string) []string { return texts }

// with returns a list with another text at one place, and with empty texts before it where there were none.
func with(args []string, i int, text string) []string {
	longer := append(slices.Clone(args), make([]string, max(0, i+1-len(args)))...)
	longer[i] = text
	return longer
}

// allNames are the names of the chapter's table, in the order that Names promises.
func allNames() []string {
	return l("dateadd", "dateformat", "fixed", "formula", "lc", "lcfirst", "len", "occurs", "padleft", "padright", "part", "pos", "replace", "sub", "trim", "uc", "ucfirst")
}

// usual are arguments for which a function has a result; each of its arguments is there and decides on the result.
func usual(name string) []string {
	switch name {
	case "sub":
		return l("abcdef", "1", "3")
	case "occurs":
		return l("abab", "ab")
	case "pos":
		return l("abcabc", "b", "2")
	case "replace":
		return l("ababab", "b", "-", "2")
	case "padleft", "padright":
		return l("7", "3", "ab")
	case "part":
		return l("a-b-c", "-", "2")
	case "formula":
		return l("1 / 3")
	case "fixed":
		return l("2 / 3", "2")
	case "dateadd":
		return l("2024-01-31 08:00", "2", "month")
	case "dateformat":
		return l("j F Y", "2024-02-29")
	}
	return l("aB cD")
}

// place is an argument of a function that is an integer, with what an empty one denotes.
type place struct {
	name  string
	index int
	empty string
}

func integers() []place {
	return []place{{"sub", 1, "0"}, {"sub", 2, "32768"}, {"pos", 2, "0"}, {"replace", 3, "-1"}, {"padleft", 1, "0"}, {"padright", 1, "0"}, {"part", 2, "0"}, {"fixed", 1, "0"}, {"dateadd", 1, "0"}}
}

// otherBlanks are texts that look blank, but that Trim leaves.
func otherBlanks() []string {
	return l("\v", "\f", "\x00", "\x85", "\xa0", "\u0085", "\u00a0", "\u2003", "\u2028", "\u3000", "\ufeff")
}

// eachByte returns the texts of one byte.
func eachByte() []string {
	var texts []string
	for c := range 256 {
		texts = append(texts, string([]byte{byte(c)}))
	}
	return texts
}

// long is a text of so many bytes.
func long(n int) string { return strings.Repeat("x", n) }

// Reading the chapter by its words.

// wordsTable holds the first two columns of the chapter's table.
const wordsTable = `len | s
sub | s, from (0), n
occurs | s, t as it is
pos | s, t as it is, from (0)
replace | s, old as it is, with as it is, most (-1)
padleft, padright | s, n (0), fill as it is
lc, uc | s
lcfirst, ucfirst | s
trim | s
part | s, sep as it is, i (0)
formula | s
fixed | s, places (0)
dateadd | date, n (0), unit
dateformat | pattern, date`

// wordsArguments returns what the second column says of a function, and whether there is one.
func wordsArguments(name string) ([]string, bool) {
	for row := range strings.SplitSeq(wordsTable, "\n") {
		names, args, _ := strings.Cut(row, " | ")
		if slices.Contains(strings.Split(names, ", "), name) {
			return strings.Split(args, ", "), true
		}
	}
	return nil, false
}

// wordsInteger returns the text that an empty argument is replaced by, and whether the argument is an integer.
func wordsInteger(name, column string) (string, bool) {
	if name == "sub" && column == "n" {
		return "", true
	}
	_, rest, ok := strings.Cut(column, " (")
	return strings.TrimSuffix(rest, ")"), ok
}

// wordsRead returns the texts of the arguments that a function uses, where integers are written in one way.
func wordsRead(name string, columns, args []string) ([]string, api.Errno) {
	texts := make([]string, len(columns))
	copy(texts, args)
	for i, column := range columns {
		if !strings.HasSuffix(column, " as it is") {
			texts[i] = strings.Trim(texts[i], "\t\n\r ")
		}
		empty, isInteger := wordsInteger(name, column)
		if isInteger && texts[i] == "" {
			texts[i] = empty
		} else if isInteger {
			n, err := number.Parse(texts[i])
			if err != api.OK {
				return nil, err
			}
			if number.Compare(n, api.Number{Num: n.Num, Den: 1}) != 0 {
				return nil, api.ErrForm
			}
			texts[i] = fmt.Sprint(n.Num)
		}
	}
	return texts, api.OK
}

func wordsCall(name string, args []string) (string, api.Errno) {
	columns, ok := wordsArguments(name)
	if !ok {
		return "", api.ErrUnknown
	}
	if len(args) > 40 {
		return "", api.ErrLimit
	}
	if slices.ContainsFunc(args, func(s string) bool { return len(s) > 32768 }) {
		return "", api.ErrTooLarge
	}
	texts, err := wordsRead(name, columns, args)
	if err != api.OK {
		return "", err
	}
	return wordsResult(name, texts)
}

// toInt returns the integer that wordsRead has written.
func toInt(s string) int {
	n := 0
	fmt.Sscan(s, &n)
	return n
}

// wordsResult is the third column of the chapter's table.
func wordsResult(name string, x []string) (string, api.Errno) {
	switch name {
	case "len":
		return fmt.Sprint(strfunc.Length(x[0])), api.OK
	case "sub":
		if x[2] == "" {
			return strfunc.Slice(x[0], toInt(x[1]), api.MaxString), api.OK
		}
		return strfunc.Slice(x[0], toInt(x[1]), toInt(x[2])), api.OK
	case "occurs":
		return fmt.Sprint(strfunc.Count(x[0], x[1])), api.OK
	case "pos":
		return strings.TrimPrefix(fmt.Sprint(strfunc.Find(x[0], x[1], toInt(x[2]))), "-1"), api.OK
	case "replace":
		return strfunc.Replace(x[0], x[1], x[2], toInt(x[3]))
	case "padleft":
		return strfunc.PadLeft(x[0], toInt(x[1]), wordsFill(x[2]))
	case "padright":
		return strfunc.PadRight(x[0], toInt(x[1]), wordsFill(x[2]))
	case "lc":
		return strfunc.Lower(x[0]), api.OK
	case "uc":
		return strfunc.Upper(x[0]), api.OK
	case "lcfirst":
		return strfunc.First(x[0], false), api.OK
	case "ucfirst":
		return strfunc.First(x[0], true), api.OK
	case "part":
		return strfunc.Part(x[0], x[1], toInt(x[2])), api.OK
	case "trim":
		return x[0], api.OK
	}
	return wordsComputed(name, x)
}

// wordsComputed is the rest of the third column.
func wordsComputed(name string, x []string) (string, api.Errno) {
	unit := slices.Index(l("minute", "hour", "day", "month", "year"), x[len(x)-1]) + 1
	var n api.Number
	var minute int
	err := api.OK
	switch name {
	case "formula", "fixed":
		if name == "formula" && x[0] == "" {
			return "", api.OK
		}
		n, err = formula.Eval(x[0])
	case "dateadd":
		if unit == 0 {
			return "", api.ErrForm
		}
		minute, err = calendar.Parse(x[0])
	case "dateformat":
		minute, err = calendar.Parse(x[1])
	}
	if err == api.OK && name == "dateadd" {
		minute, err = calendar.Add(minute, unit, toInt(x[1]))
	}
	switch {
	case err != api.OK:
		return "", err
	case name == "formula":
		return number.Format(n), api.OK
	case name == "fixed":
		return number.Fixed(n, toInt(x[1]))
	case name == "dateadd":
		return calendar.Format("Y-m-d H:i", minute)
	}
	return calendar.Format(x[0], minute)
}

func wordsFill(fill string) string {
	if fill == "" {
		return "0"
	}
	return fill
}

func mustBeAsWords(t *testing.T, name string, args []string) {
	t.Helper()
	want, err := wordsCall(name, args)
	must(t, name, args, want, err)
}

// The examples

func TestExamples(t *testing.T) {
	mustBe(t, "cdef", "sub", "abcdef", "2")
	mustBe(t, "a_b", "replace", "a b", " ", "_")
	mustBe(t, "6", "dateformat", "N", "2000-01-01")
	mustFail(t, api.ErrForm, "sub", "abc", "1.5")
	mustBe(t, "0", "len")
}

// Names

func TestNames(t *testing.T) {
	if got := Names(); !slices.Equal(got, allNames()) {
		t.Errorf("Names() = %q, want %q", got, allNames())
	}
	if !slices.IsSortedFunc(Names(), strings.Compare) {
		t.Errorf("Names() = %q is not in ascending order", Names())
	}
}

func TestNamesAreNewEachTime(t *testing.T) {
	names := Names()
	for i := range names {
		names[i] = "x"
	}
	_ = append(names[:0], "y")
	if got := Names(); !slices.Equal(got, allNames()) {
		t.Errorf("Names() = %q after a change of what it has returned before", got)
	}
}

func TestEachNameIsAFunction(t *testing.T) {
	for _, name := range Names() {
		if _, err := Call(name, usual(name)); err != api.OK {
			t.Errorf("Call(%q, %q) returns %v", name, usual(name), err)
		}
		if _, err := Call(name, nil); err == api.ErrUnknown {
			t.Errorf("Call(%q, nil) returns %v", name, err)
		}
	}
}

func TestOtherNames(t *testing.T) {
	others := l("", " ", "count", "find", "slice", "lower", "upper", "first", "eval", "pad", "date", "add", "if", "switch", "#len", "len:", "{{len}}", "s", "length", "lc,uc", "padleft, padright")
	for _, name := range allNames() {
		others = append(others, " "+name, name+" ", "\n"+name, name+"\n", name+"\x00", name+name, strings.ToUpper(name), strings.ToUpper(name[:1])+name[1:], name[:len(name)-1], name[1:], name+"\xff", "\xff"+name, name+"\u0301")
	}
	for _, name := range others {
		mustFail(t, api.ErrUnknown, name)
		mustFail(t, api.ErrUnknown, name, "a", "b", "c")
	}
}

func TestOtherNamesOfAnyBytes(t *testing.T) {
	sample.Texts(2, eachByte(), func(name string) {
		if name != "lc" && name != "uc" {
			mustFail(t, api.ErrUnknown, name, "1")
		}
	})
	mustFail(t, api.ErrUnknown, long(10*mostBytes))
	mustFail(t, api.ErrUnknown, "len"+strings.Repeat(" ", mostBytes))
}

// The functions

func TestLen(t *testing.T) {
	mustBe(t, "0", "len", "")
	mustBe(t, "0", "len", " \t\r\n")
	mustBe(t, "3", "len", "abc")
	mustBe(t, "3", "len", " abc\n")
	mustBe(t, "3", "len", "a b")
	mustBe(t, "4", "len", "\u00e9\u20ac\U0001f600a")
	mustBe(t, "2", "len", "\xff\xfe")
	mustBe(t, "2", "len", "\xe2\x82")
	mustBe(t, "2", "len", "ab", "cde")
	mustBe(t, "10", "len", "abcdefghij")
	mustBe(t, "32768", "len", long(mostBytes))
	mustBe(t, "16384", "len", strings.Repeat("\u00e9", mostBytes/2))
	mustBe(t, "1", "len", strings.Repeat(" ", mostBytes-1)+"a")
}

func TestSub(t *testing.T) {
	mustBe(t, "", "sub")
	mustBe(t, "abcdef", "sub", "abcdef")
	mustBe(t, "abcdef", "sub", "abcdef", "0")
	mustBe(t, "bcdef", "sub", "abcdef", "1")
	mustBe(t, "f", "sub", "abcdef", "5")
	mustBe(t, "", "sub", "abcdef", "6")
	mustBe(t, "", "sub", "abcdef", "999999999")
	mustBe(t, "ef", "sub", "abcdef", "-2")
	mustBe(t, "abcdef", "sub", "abcdef", "-999999999")
	mustBe(t, "bc", "sub", "abcdef", "1", "2")
	mustBe(t, "de", "sub", "abcdef", "-3", "2")
	mustBe(t, "", "sub", "abcdef", "1", "0")
	mustBe(t, "cd", "sub", " abcdef ", "2", "2")
	mustBe(t, "b c", "sub", "a b c", "2")
	mustBe(t, " b", "sub", "a b c", "1", "2")
	mustBe(t, "\u20ac\xff", "sub", "\u00e9\u20ac\xff\U0001f600", "1", "2")
	mustBe(t, "abcdef", "sub", "abcdef", "0", "999999999")
	mustBe(t, "bc", "sub", "abcdef", "1", "2", "5", "x")
}

func TestSubWithEmptyN(t *testing.T) {
	for _, n := range l("", " ", "\t\r\n") {
		mustBe(t, "cdef", "sub", "abcdef", "2", n)
		mustBe(t, "ef", "sub", "abcdef", "-2", n)
		mustBe(t, "abcdef", "sub", "abcdef", "", n)
		mustBe(t, "ab", "sub", "abcdef", n, "2")
	}
	s := long(mostBytes)
	mustBe(t, s, "sub", s)
	mustBe(t, s, "sub", s, "0", "")
	mustBe(t, s[1:], "sub", s, "1")
	mustBe(t, "\u00e9"+s[2:], "sub", "\u00e9"+s[2:], "")
}

func TestSubWithNegativeN(t *testing.T) {
	mustBe(t, "abcd", "sub", "abcdef", "", "-2")
	mustBe(t, "bcd", "sub", "abcdef", "1", "-2")
	mustBe(t, "d", "sub", "abcdef", "-3", "-2")
	mustBe(t, "", "sub", "abcdef", "1", "-5")
	mustBe(t, "", "sub", "abcdef", "1", "-999999999")
	mustBe(t, "\u00e9", "sub", "\u00e9\xff", "0", "-1")
}

func TestOccurs(t *testing.T) {
	mustBe(t, "0", "occurs")
	mustBe(t, "0", "occurs", "abc")
	mustBe(t, "0", "occurs", "abc", "")
	mustBe(t, "0", "occurs", "", "a")
	mustBe(t, "2", "occurs", "abcabc", "bc")
	mustBe(t, "2", "occurs", "aaaa", "aa")
	mustBe(t, "0", "occurs", "abc", "B")
	mustBe(t, "2", "occurs", "a b c", " ")
	mustBe(t, "1", "occurs", " a b ", " ")
	mustBe(t, "1", "occurs", " a b ", " b")
	mustBe(t, "0", "occurs", " a b ", "b ")
	mustBe(t, "0", "occurs", " a ", " a ")
	mustBe(t, "0", "occurs", "a,b,c", ", ")
	mustBe(t, "1", "occurs", "a\nb\rc\n", "\n")
	mustBe(t, "2", "occurs", "a b c", " ", "x", "1")
	mustBe(t, "32768", "occurs", long(mostBytes), "x")
}

func TestPos(t *testing.T) {
	mustBe(t, "0", "pos", "abc", "a")
	mustBe(t, "2", "pos", "abcabc", "c")
	mustBe(t, "2", "pos", "abcabc", "c", "2")
	mustBe(t, "5", "pos", "abcabc", "c", "3")
	mustBe(t, "2", "pos", "abcabc", "c", "")
	mustBe(t, "2", "pos", "abcabc", "c", " \n")
	mustBe(t, "2", "pos", "abcabc", "c", "-1")
	mustBe(t, "2", "pos", "abcabc", "c", "-999999999")
	mustBe(t, "2", "pos", "\u00e9\u20acb", "b")
	mustBe(t, "1", "pos", "\xff\xfe", "\xfe")
	mustBe(t, "10", "pos", "abcdefghijk", "k")
	mustBe(t, "2", "pos", "abcabc", "c", "0", "9")
	mustBe(t, "32767", "pos", long(mostBytes-1)+"y", "y")
}

func TestPosWithBlanks(t *testing.T) {
	mustBe(t, "1", "pos", "a b", " ")
	mustBe(t, "1", "pos", "  a b ", " ")
	mustBe(t, "1", "pos", " a b", " b")
	mustBe(t, "", "pos", " a b ", "b ")
	mustBe(t, "", "pos", "ab", " a")
	mustBe(t, "", "pos", " ", " ")
}

func TestPosWhereNothingIsFound(t *testing.T) {
	mustBe(t, "", "pos", "abc", "x")
	mustBe(t, "", "pos", "abc", "A")
	mustBe(t, "", "pos", "abcabc", "c", "6")
	mustBe(t, "", "pos", "abc", "a", "1")
	mustBe(t, "", "pos", "abc", "a", "999999999")
	mustBe(t, "", "pos", "", "a")
}

func TestPosOfNothing(t *testing.T) {
	mustBe(t, "0", "pos")
	mustBe(t, "0", "pos", "abc")
	mustBe(t, "0", "pos", "abc", "")
	mustBe(t, "2", "pos", "abc", "", "2")
	mustBe(t, "3", "pos", "abc", "", "3")
	mustBe(t, "", "pos", "abc", "", "4")
	mustBe(t, "0", "pos", " ", "")
	mustBe(t, "", "pos", " ", "", "1")
}

func TestReplace(t *testing.T) {
	mustBe(t, "", "replace")
	mustBe(t, "abc", "replace", "abc")
	mustBe(t, "abc", "replace", "abc", "", "x")
	mustBe(t, "axcaxc", "replace", "abcabc", "b", "x")
	mustBe(t, "acac", "replace", "abcabc", "b")
	mustBe(t, "acac", "replace", "abcabc", "b", "")
	mustBe(t, "bba", "replace", "aaaaa", "aa", "b")
	mustBe(t, "abc", "replace", "abc", "B", "x")
	mustBe(t, "\u20ac\xff", "replace", "\u00e9\xff", "\u00e9", "\u20ac")
	mustBe(t, "axc", "replace", "abc", "b", "x", "1", "y")
}

func TestReplaceWithBlanks(t *testing.T) {
	mustBe(t, "abc", "replace", " a b c ", " ", "")
	mustBe(t, "a_b", "replace", "\na b\t", " ", "_")
	mustBe(t, "a b", "replace", "a-b", "-", " ")
	mustBe(t, " b ", "replace", "aba", "a", " ")
	mustBe(t, "  \n", "replace", "a", "a", "  \n")
	mustBe(t, "a,b", "replace", "a,b", ", ", "-")
	mustBe(t, "a-b", "replace", "a, b", ", ", "-")
	mustBe(t, "x", "replace", " x ", " x ", "y")
}

func TestReplaceMost(t *testing.T) {
	mustBe(t, "aaa", "replace", "aaa", "a", "b", "0")
	mustBe(t, "baa", "replace", "aaa", "a", "b", "1")
	mustBe(t, "bba", "replace", "aaa", "a", "b", " 2 ")
	for _, most := range l("", " ", "\t", "3", "4", "999999999", "-1", "-2", "-999999999") {
		mustBe(t, "bbb", "replace", "aaa", "a", "b", most)
	}
}

func TestReplaceSizes(t *testing.T) {
	s := long(mostBytes)
	mustBe(t, s, "replace", s, "y", "zz")
	mustBe(t, strings.Repeat("ab", mostBytes/2), "replace", strings.Repeat("a", mostBytes/2), "a", "ab")
	mustBe(t, s[2:]+"yy", "replace", s[2:]+"y", "y", "yy")
	mustFail(t, api.ErrTooLarge, "replace", s[1:]+"y", "y", "yy")
	mustFail(t, api.ErrTooLarge, "replace", strings.Repeat("a", mostBytes/2)+"a", "a", "ab")
	mustFail(t, api.ErrTooLarge, "replace", s, "x", s)
	// What is trimmed does not count in the result.
	mustBe(t, s[2:]+"yy", "replace", " "+s[2:]+"y", "y", "yy")
}

func TestPad(t *testing.T) {
	for _, x := range []struct {
		args        []string
		left, right string
	}{
		{nil, "", ""},
		{l("7"), "7", "7"},
		{l("7", "3"), "007", "700"},
		{l("7", "3", ""), "007", "700"},
		{l("7", "3", " "), "  7", "7  "},
		{l("7", "3", "\n"), "\n\n7", "7\n\n"},
		{l(" 7 ", "3", " -"), " -7", "7 -"},
		{l("7", "6", "ab"), "ababa7", "7ababa"},
		{l("7", "2", "ab"), "a7", "7a"},
		{l("7", "3", "\u00e9"), "\u00e9\u00e97", "7\u00e9\u00e9"},
		{l("\u00e9\xff", "3"), "0\u00e9\xff", "\u00e9\xff0"},
		{l("", "3", "ab"), "aba", "aba"},
		{l(" \n", "3"), "000", "000"},
		{l("abc", "3"), "abc", "abc"},
		{l("abc", "2"), "abc", "abc"},
		{l("abc", "-5"), "abc", "abc"},
		{l("abc", "-999999999"), "abc", "abc"},
		{l("abc", ""), "abc", "abc"},
		{l("abc", " ", "x"), "abc", "abc"},
		{l("7", "3", "ab", "c"), "ab7", "7ab"},
	} {
		mustBe(t, x.left, "padleft", x.args...)
		mustBe(t, x.right, "padright", x.args...)
	}
}

func TestPadSizes(t *testing.T) {
	s := long(mostBytes)
	for _, name := range l("padleft", "padright") {
		mustBe(t, s, name, s)
		mustBe(t, s, name, s, "32768")
		mustBe(t, s, name, "", "32768", "x")
		mustBe(t, strings.Repeat("0", mostBytes), name, "", "32768")
		mustBe(t, strings.Repeat("\u00e9", mostBytes/2), name, "\u00e9", "16384", "\u00e9")
		mustFail(t, api.ErrTooLarge, name, s, "32769")
		mustFail(t, api.ErrTooLarge, name, "", "32769")
		mustFail(t, api.ErrTooLarge, name, "", "16385", "\u00e9")
		mustFail(t, api.ErrTooLarge, name, "x", "999999999", s)
	}
}

func TestCase(t *testing.T) {
	for _, x := range []struct{ s, lc, uc, lcfirst, ucfirst string }{
		{"", "", "", "", ""},
		{" \n", "", "", "", ""},
		{"aBc", "abc", "ABC", "aBc", "ABc"},
		{"AbC", "abc", "ABC", "abC", "AbC"},
		{" aB cD ", "ab cd", "AB CD", "aB cD", "AB cD"},
		{"\tAB\r\n", "ab", "AB", "aB", "AB"},
		{"@AZ[`az{", "@az[`az{", "@AZ[`AZ{", "@AZ[`az{", "@AZ[`az{"},
		{"\u00c9\u00e9A", "\u00c9\u00e9a", "\u00c9\u00e9A", "\u00c9\u00e9A", "\u00c9\u00e9A"},
		{"\xffAb", "\xffab", "\xffAB", "\xffAb", "\xffAb"},
		{"1aB", "1ab", "1AB", "1aB", "1aB"},
	} {
		for _, args := range [][]string{l(x.s), l(x.s, "Xx"), l(x.s, "", "x", "1")} {
			mustBe(t, x.lc, "lc", args...)
			mustBe(t, x.uc, "uc", args...)
			mustBe(t, x.lcfirst, "lcfirst", args...)
			mustBe(t, x.ucfirst, "ucfirst", args...)
		}
	}
	for _, name := range l("lc", "uc", "lcfirst", "ucfirst") {
		mustBe(t, "", name)
	}
}

func TestTrim(t *testing.T) {
	mustBe(t, "", "trim")
	mustBe(t, "", "trim", "")
	mustBe(t, "", "trim", " \t\r\n")
	mustBe(t, "a b", "trim", "a b")
	mustBe(t, "a b", "trim", " a b\n")
	mustBe(t, "A \n b", "trim", "\r\n\tA \n b \t\r\n")
	mustBe(t, "a", "trim", " a ", " b ")
	mustBe(t, long(mostBytes), "trim", long(mostBytes))
	for _, blank := range otherBlanks() {
		mustBe(t, blank+"a"+blank, "trim", " "+blank+"a"+blank+"\n")
	}
	for _, b := range eachByte() {
		mustBe(t, "a"+b+"a", "trim", " a"+b+"a\n")
		mustBe(t, strings.Trim(b, "\t\n\r "), "trim", b)
	}
}

func TestPart(t *testing.T) {
	mustBe(t, "", "part")
	mustBe(t, "abc", "part", "abc")
	mustBe(t, "abc", "part", "abc", "")
	mustBe(t, "", "part", "abc", "", "1")
	mustBe(t, "a", "part", "a-b-c", "-")
	mustBe(t, "a", "part", "a-b-c", "-", "")
	mustBe(t, "a", "part", "a-b-c", "-", " ")
	mustBe(t, "b", "part", "a-b-c", "-", "1")
	mustBe(t, "c", "part", "a-b-c", "-", "2")
	mustBe(t, "", "part", "a-b-c", "-", "3")
	mustBe(t, "", "part", "a-b-c", "-", "999999999")
	mustBe(t, "c", "part", "a-b-c", "-", "-1")
	mustBe(t, "a", "part", "a-b-c", "-", "-3")
	mustBe(t, "", "part", "a-b-c", "-", "-4")
	mustBe(t, "", "part", "a-b-c", "-", "-999999999")
	mustBe(t, "b", "part", "a-b-c", "-", "1", "2")
	mustBe(t, "\xff", "part", "a\u00e9\xff", "\u00e9", "1")
}

func TestPartWithBlanks(t *testing.T) {
	mustBe(t, "a", "part", " a b ", " ")
	mustBe(t, "b", "part", " a b ", " ", "1")
	mustBe(t, "", "part", " a b ", " ", "2")
	mustBe(t, "a", "part", "a\nb", "\n")
	mustBe(t, "a ", "part", " a - b ", "-", "0")
	mustBe(t, " b", "part", " a - b ", "-", "1")
	mustBe(t, "a", "part", "a - b-c", " - ")
	mustBe(t, "b-c", "part", "a - b-c", " - ", "-1")
}

func TestFormula(t *testing.T) {
	mustBe(t, "1/3", "formula", "1 / 3")
	mustBe(t, "-0.125", "formula", "-1 / 8")
	mustBe(t, "14", "formula", " 2 + 3 * 4 ")
	mustBe(t, "1", "formula", "2 + 3 * 4 = 14")
	mustBe(t, "0", "formula", "0")
	mustBe(t, "0.5", "formula", "0.50")
	mustBe(t, "1000000000", "formula", "10 ^ 9")
	mustBe(t, "3", "formula", "1\n+\t2")
	// A carriage return is a blank at the ends only.
	mustBe(t, "3", "formula", "\r\n1 + 2\r\n")
	mustFail(t, api.ErrSyntax, "formula", "1 +\r2")
	mustBe(t, "3", "formula", "1 + 2", "x", "/ 0")
}

func TestFormulaOfNothing(t *testing.T) {
	mustBe(t, "", "formula")
	for _, s := range l("", " ", "\t", "\n", "\r", " \r\n\t ") {
		mustBe(t, "", "formula", s)
		mustBe(t, "", "formula", s, "1")
	}
}

func TestFormulaErrors(t *testing.T) {
	for _, s := range l("1 +", "x", "()", "1234567890", "\xff", "\u00a0", "\v") {
		mustFail(t, api.ErrSyntax, "formula", s)
	}
	mustFail(t, api.ErrZero, "formula", "1 / 0")
	mustFail(t, api.ErrOverflow, "formula", "10 ^ 10")
	mustFail(t, api.ErrRange, "formula", "2 ^ 31")
	mustFail(t, api.ErrDepth, "formula", strings.Repeat("-", 20)+"1")
	mustFail(t, api.ErrTooLarge, "formula", "1 / 0"+strings.Repeat(" ", mostPattern)+"+")
}

// The length of a formula is that of the trimmed text.
func TestFormulaLengths(t *testing.T) {
	blanks := strings.Repeat(" ", mostPattern-3)
	for _, name := range l("formula", "fixed") {
		mustBe(t, "3", name, "1+"+blanks+"2")
		mustBe(t, "3", name, "\r\n1+"+blanks+"2\t ")
		mustBe(t, "3", name, blanks+blanks+"1+"+blanks+"2"+blanks)
		mustFail(t, api.ErrTooLarge, name, "1+"+blanks+" 2")
		mustFail(t, api.ErrTooLarge, name, long(mostPattern+1))
		mustFail(t, api.ErrSyntax, name, long(mostPattern))
	}
}

func TestFixed(t *testing.T) {
	mustBe(t, "0.67", "fixed", "2 / 3", "2")
	mustBe(t, "3", "fixed", "2.5")
	mustBe(t, "3", "fixed", "2.5", "")
	mustBe(t, "3", "fixed", "2.5", " ")
	mustBe(t, "3", "fixed", "2.5", "0")
	mustBe(t, "-3", "fixed", "-2.5")
	mustBe(t, "2.500", "fixed", " 2.5\n", " 3 ")
	mustBe(t, "0", "fixed", "-0.4")
	mustBe(t, "0.333333333", "fixed", "1 / 3", "9")
	mustBe(t, "1", "fixed", "1 = 1")
	mustBe(t, "0.67", "fixed", "2 / 3", "2", "5")
}

func TestFixedErrors(t *testing.T) {
	mustFail(t, api.ErrSyntax, "fixed")
	mustFail(t, api.ErrSyntax, "fixed", "")
	mustFail(t, api.ErrSyntax, "fixed", " ", "2")
	mustFail(t, api.ErrRange, "fixed", "1", "10")
	mustFail(t, api.ErrRange, "fixed", "1", "-1")
	mustFail(t, api.ErrRange, "fixed", "1", "999999999")
	mustFail(t, api.ErrOverflow, "fixed", "1000 / 3", "9")
	// The integer, then the inner function, then the outer one.
	mustFail(t, api.ErrForm, "fixed", "1 / 0", "0.5")
	mustFail(t, api.ErrSyntax, "fixed", "1 / 0", "x")
	mustFail(t, api.ErrOverflow, "fixed", "1 / 0", "1.000000001")
	mustFail(t, api.ErrZero, "fixed", "1 / 0", "10")
	mustFail(t, api.ErrSyntax, "fixed", "1 +", "10")
	mustFail(t, api.ErrTooLarge, "fixed", long(mostPattern+1), "10")
	mustFail(t, api.ErrDepth, "fixed", strings.Repeat("-", 20)+"1", "-1")
}

func TestDateAdd(t *testing.T) {
	for _, x := range []struct{ date, n, unit, want string }{
		{"2024-01-31 08:00", "1", "minute", "2024-01-31 08:01"},
		{"2024-01-31 08:00", "1", "hour", "2024-01-31 09:00"},
		{"2024-01-31 08:00", "1", "day", "2024-02-01 08:00"},
		{"2024-01-31 08:00", "1", "month", "2024-02-29 08:00"},
		{"2024-01-31 08:00", "1", "year", "2025-01-31 08:00"},
		{"2024-02-29", "-1", "minute", "2024-02-28 23:59"},
		{"2024-02-29", "-1", "hour", "2024-02-28 23:00"},
		{"2024-02-29", "-1", "day", "2024-02-28 00:00"},
		{"2024-02-29", "-1", "month", "2024-01-29 00:00"},
		{"2024-02-29", "-1", "year", "2023-02-28 00:00"},
		{" 2024-02-29\n", " 25 ", "\thour ", "2024-03-01 01:00"},
		{"2023-12-31 23:59", "1", "minute", "2024-01-01 00:00"},
		{"2000-01-01", "0", "day", "2000-01-01 00:00"},
		{"2099-12-31 23:59", "", "day", "2099-12-31 23:59"},
		{"2099-12-31 23:59", " ", "year", "2099-12-31 23:59"},
		{"2000-01-01", "1199", "month", "2099-12-01 00:00"},
		{"2000-01-01", "52595999", "minute", "2099-12-31 23:59"},
	} {
		mustBe(t, x.want, "dateadd", x.date, x.n, x.unit)
		mustBe(t, x.want, "dateadd", x.date, x.n, x.unit, "day", "x")
	}
}

func TestDateAddOtherUnits(t *testing.T) {
	for _, unit := range l("", " ", "week", "second", "days", "minutes", "Day", "MONTH", "d", "1", "3", "da y", "day.", "day\x00", "\u00a0day", "\xff", "minute|hour", long(mostBytes)) {
		mustFail(t, api.ErrForm, "dateadd", "2024-01-31", "1", unit)
		mustFail(t, api.ErrForm, "dateadd", "2024-01-31", "", unit)
		mustFail(t, api.ErrForm, "dateadd", "x", "1", unit)
		mustFail(t, api.ErrForm, "dateadd", "2023-02-29", "1", unit)
		mustFail(t, api.ErrForm, "dateadd", "2000-01-01", "-1", unit)
	}
	mustFail(t, api.ErrForm, "dateadd")
	mustFail(t, api.ErrForm, "dateadd", "2024-01-31")
	mustFail(t, api.ErrForm, "dateadd", "2024-01-31", "1")
}

func TestDateAddErrorsInOrder(t *testing.T) {
	for _, unit := range l("week", "", "day") {
		for _, date := range l("x", "2023-02-29", "2000-01-01") {
			mustFail(t, api.ErrSyntax, "dateadd", date, "x", unit)
			mustFail(t, api.ErrForm, "dateadd", date, "0.5", unit)
			mustFail(t, api.ErrOverflow, "dateadd", date, "1.000000001", unit)
		}
	}
	for _, unit := range l("minute", "hour", "day", "month", "year") {
		for _, n := range l("", "1", "-999999999", "999999999") {
			mustFail(t, api.ErrSyntax, "dateadd", "", n, unit)
			mustFail(t, api.ErrSyntax, "dateadd", "x", n, unit)
			mustFail(t, api.ErrSyntax, "dateadd", "2024-1-31", n, unit)
			mustFail(t, api.ErrRange, "dateadd", "2023-02-29", n, unit)
			mustFail(t, api.ErrRange, "dateadd", "1999-12-31", n, unit)
		}
		mustFail(t, api.ErrOverflow, "dateadd", "2000-01-01", "-1", unit)
		mustFail(t, api.ErrOverflow, "dateadd", "2099-12-31 23:59", "1", unit)
		mustFail(t, api.ErrOverflow, "dateadd", "2024-01-31", "-999999999", unit)
		mustFail(t, api.ErrOverflow, "dateadd", "2024-01-31", "999999999", unit)
	}
}

func TestDateFormat(t *testing.T) {
	mustBe(t, "29 February 2024", "dateformat", "j F Y", "2024-02-29")
	mustBe(t, "12:30", "dateformat", " H:i\n", " 2000-01-01 12:30 ")
	mustBe(t, "2024  02", "dateformat", "\tY  m ", "2024-02-29")
	mustBe(t, "", "dateformat", "", "2024-02-29")
	mustBe(t, "", "dateformat", " ", "2024-02-29")
	mustBe(t, "j 29", "dateformat", "\\j j", "2024-02-29")
	mustBe(t, "29\\", "dateformat", "j\\ ", "2024-02-29")
	mustBe(t, "\xff\u00e929", "dateformat", "\xff\u00e9j", "2024-02-29")
	mustBe(t, "29", "dateformat", "j", "2024-02-29", "Y", "x")
}

func TestDateFormatErrors(t *testing.T) {
	mustFail(t, api.ErrSyntax, "dateformat")
	mustFail(t, api.ErrSyntax, "dateformat", "Y")
	mustFail(t, api.ErrSyntax, "dateformat", "Y", "")
	mustFail(t, api.ErrSyntax, "dateformat", "2024-02-29", "Y")
	mustFail(t, api.ErrRange, "dateformat", "Y", "2023-02-29")
	mustFail(t, api.ErrRange, "dateformat", "Y", "2100-01-01")
	// The inner function, then the outer one; the pattern is measured after it is trimmed.
	mustFail(t, api.ErrSyntax, "dateformat", long(mostPattern+1), "x")
	mustFail(t, api.ErrRange, "dateformat", long(mostPattern+1), "2023-02-29")
	mustFail(t, api.ErrTooLarge, "dateformat", long(mostPattern+1), "2024-02-29")
	mustBe(t, long(mostPattern), "dateformat", long(mostPattern), "2024-02-29")
	mustBe(t, long(mostPattern), "dateformat", "\r"+long(mostPattern)+" \n", "2024-02-29")
}

// What the functions have in common

func TestArgumentsThatAreLeftOut(t *testing.T) {
	for _, name := range allNames() {
		full := usual(name)
		for i := range len(full) + 1 {
			args := slices.Clone(full[:i])
			for j := i; j < 5; j++ {
				mustAgree(t, name, append(args, make([]string, j-i)...), full[:i])
			}
		}
	}
}

func TestAdditionalArguments(t *testing.T) {
	for _, name := range allNames() {
		for _, more := range l("", " ", "x", "0.5", "1", "week", "\xff", long(mostBytes)) {
			for n := range mostArgs - len(usual(name)) + 1 {
				mustAgree(t, name, append(usual(name), slices.Repeat(l(more), n)...), usual(name))
			}
		}
	}
}

func TestTrimmedArguments(t *testing.T) {
	kept := map[string][]int{"occurs": {1}, "pos": {1}, "replace": {1, 2}, "padleft": {2}, "padright": {2}, "part": {1}}
	for _, name := range allNames() {
		for i, text := range usual(name) {
			padded := with(usual(name), i, "\n\t "+text+" \r\n")
			if !slices.Contains(kept[name], i) {
				mustAgree(t, name, padded, usual(name))
				continue
			}
			a, _ := Call(name, padded)
			b, _ := Call(name, usual(name))
			if a == b {
				t.Errorf("%s does not take argument %d as it is", name, i)
			}
		}
	}
}

func TestIntegers(t *testing.T) {
	for _, x := range integers() {
		args := usual(x.name)
		mustAgree(t, x.name, with(args, x.index, ""), with(args, x.index, x.empty))
		mustAgree(t, x.name, with(args, x.index, " \t\r\n"), with(args, x.index, x.empty))
		for _, text := range l("+2", "02", "000000002", "2.0", "2.000000000", "+02.00", " 2", "2 ", "\n\t2\r\n") {
			mustAgree(t, x.name, with(args, x.index, text), with(args, x.index, "2"))
		}
		for _, text := range l("-1.0", "-01", "-1.000000000", " -1 ") {
			mustAgree(t, x.name, with(args, x.index, text), with(args, x.index, "-1"))
		}
		for _, text := range l("-0", "+0", "0.0", ".0", "-.0", "+.000", "000000000", "-0.000000000") {
			mustAgree(t, x.name, with(args, x.index, text), with(args, x.index, "0"))
		}
	}
}

func TestArgumentsThatAreNoIntegers(t *testing.T) {
	for _, x := range integers() {
		for _, args := range [][]string{usual(x.name), nil} {
			for _, text := range l("0.5", "1.5", "-.5", "+2.25", " .1 ", "0.000000001", "-0.999999999", "1.00000001") {
				mustFail(t, api.ErrForm, x.name, with(args, x.index, text)...)
			}
			for _, text := range l("x", "1/2", "4/2", "1e1", "0x1", "--1", "+-1", "- 1", "1 2", "1.", ".", "-", "+", "1,0", "1.0.0", "1234567890", "0000000001", "1.0000000000", "1\x00", "\x001", "1\v", "\u00a01", "\uff11", "\xff", "one", "1+1", long(mostBytes)) {
				mustFail(t, api.ErrSyntax, x.name, with(args, x.index, text)...)
			}
			for _, text := range l("999999999.999999999", "1.000000001", "-1.000000001", "10.00000001", " 2.000000001\n") {
				mustFail(t, api.ErrOverflow, x.name, with(args, x.index, text)...)
			}
		}
	}
}

func TestEachByteAsAnInteger(t *testing.T) {
	for _, x := range integers() {
		for _, b := range eachByte() {
			mustBeAsWords(t, x.name, with(usual(x.name), x.index, b))
			mustBeAsWords(t, x.name, with(usual(x.name), x.index, b+"1"))
			mustBeAsWords(t, x.name, with(usual(x.name), x.index, "1"+b))
		}
	}
}

func TestErrorsOfSeveralIntegers(t *testing.T) {
	texts := l("x", "0.5", "1.000000001")
	errs := []api.Errno{api.ErrSyntax, api.ErrForm, api.ErrOverflow}
	for i, text := range texts {
		for _, other := range append(texts, "", "1") {
			mustFail(t, errs[i], "sub", "abc", text, other)
		}
		for _, other := range l("", " ", "1", "999999999") {
			mustFail(t, errs[i], "sub", "abc", other, text)
		}
	}
}

func TestIntegersBeforeTheResult(t *testing.T) {
	s := long(mostBytes)
	mustFail(t, api.ErrSyntax, "replace", s, "x", "yy", "x")
	mustFail(t, api.ErrForm, "replace", s, "x", "yy", "0.5")
	mustFail(t, api.ErrTooLarge, "replace", s, "x", "yy", "1")
	mustFail(t, api.ErrSyntax, "padleft", s, "x", "yy")
	mustFail(t, api.ErrForm, "padright", s, "99999.5", "yy")
}

func TestNumberOfArguments(t *testing.T) {
	for _, name := range allNames() {
		args := append(usual(name), make([]string, mostArgs-len(usual(name)))...)
		mustAgree(t, name, args, usual(name))
		for _, more := range l("", "x", "1", long(mostBytes), long(mostBytes+1)) {
			mustFail(t, api.ErrLimit, name, append(args, more)...)
			mustFail(t, api.ErrLimit, name, append(l(more), args...)...)
		}
		mustFail(t, api.ErrLimit, name, make([]string, mostArgs+1)...)
		mustFail(t, api.ErrLimit, name, make([]string, 1000)...)
		// The limit comes before the sizes, and these before the integers.
		mustFail(t, api.ErrLimit, name, slices.Repeat(l(long(mostBytes+1)), mostArgs+1)...)
		mustFail(t, api.ErrLimit, name, slices.Repeat(l("x"), mostArgs+1)...)
		mustFail(t, api.ErrTooLarge, name, append(slices.Repeat(l("x"), mostArgs-1), long(mostBytes+1))...)
	}
}

func TestSizesOfArguments(t *testing.T) {
	for _, name := range allNames() {
		for i := range mostArgs {
			mustFail(t, api.ErrTooLarge, name, with(usual(name), i, long(mostBytes+1))...)
			mustFail(t, api.ErrTooLarge, name, with(nil, i, long(mostBytes+1))...)
			mustFail(t, api.ErrTooLarge, name, with(l("0.5", "x", "0.5", "x"), i, long(100000))...)
			// The bytes count as they are given, before the argument is trimmed.
			mustFail(t, api.ErrTooLarge, name, with(usual(name), i, strings.Repeat(" ", mostBytes+1))...)
			mustBeAsWords(t, name, with(usual(name), i, long(mostBytes)))
			mustBeAsWords(t, name, with(usual(name), i, strings.Repeat(" ", mostBytes)))
			if i >= len(usual(name)) {
				mustAgree(t, name, with(usual(name), i, long(mostBytes)), usual(name))
			}
		}
	}
}

func TestUnknownNamesBeforeEverything(t *testing.T) {
	for _, name := range l("", "x", "Len", "len ", "\xff") {
		mustFail(t, api.ErrUnknown, name, make([]string, mostArgs+1)...)
		mustFail(t, api.ErrUnknown, name, long(mostBytes+1))
		mustFail(t, api.ErrUnknown, name, slices.Repeat(l(long(mostBytes+1)), mostArgs+1)...)
		mustFail(t, api.ErrUnknown, name, "abc", "x", "0.5")
	}
}

func TestArgumentsOfAnyBytes(t *testing.T) {
	for _, name := range allNames() {
		for i := range len(usual(name)) {
			for _, b := range eachByte() {
				for _, text := range l(b, b+b, "a"+b, b+"a", " "+b+" ", usual(name)[i]+b, b+usual(name)[i]) {
					mustBeAsWords(t, name, with(usual(name), i, text))
				}
			}
		}
	}
}

func TestCallIsPure(t *testing.T) {
	for range 3 {
		for _, name := range allNames() {
			mustAgree(t, name, usual(name), slices.Clone(usual(name)))
			mustBeAsWords(t, name, usual(name))
			mustBeAsWords(t, name, nil)
			mustBeAsWords(t, name, []string{})
		}
	}
}

func TestAllShortLists(t *testing.T) {
	pieces := l("", " ", "a", " aB\n", "b a", "0", "2", "-1", "0.5", "1 / 0", "x", "2024-01-31", "2023-02-29", "month", " H:i ", "\u00e9\xff")
	for _, name := range append(allNames(), "", "x", "LEN") {
		sample.Lists(3, pieces, func(args []string) { mustBeAsWords(t, name, args) })
	}
	for _, name := range l("replace", "sub", "padleft", "dateadd") {
		sample.Lists(4, l("", " ", "a b a", "a", " a", "1", "-1", "x", "1.5"), func(args []string) { mustBeAsWords(t, name, args) })
	}
}

// randomText returns a text that fits in the place of some argument.
func randomText(random *rand.Rand) string {
	texts := l("", " ", "a", " a", "abcabc", " a b a b ", "a-b-c", "-", "AB", "\u00e9a\xff", "0", "1", "2", " 3 ", "-1", "-2", "+4", "2.0", "7", "100", "32768", "40000", "0.5", "1.000000001", "x",
		"1 / 3", "2 ^ 10", "10 ^ 10", "1 +", "1 / 0", "2024-02-29", "2024-01-31 08:15", "2000-01-01", "2099-12-31", "2023-02-29", "minute", "hour", "day", "month", "year", "week", "j F Y", "H:i", "\\Y Y", long(mostPattern+1), long(20000))
	return texts[random.Intn(len(texts))]
}

func TestRandomLists(t *testing.T) {
	random := rand.New(rand.NewSource(11))
	seen := map[api.Errno]int{}
	for range 60000 {
		name := allNames()[random.Intn(len(allNames()))]
		args := usual(name)
		for i := range args {
			if random.Intn(2) == 0 {
				args[i] = randomText(random)
			}
		}
		for range random.Intn(4) {
			args = append(args, randomText(random))
		}
		args = args[:len(args)-random.Intn(2)]
		mustBeAsWords(t, name, args)
		_, err := Call(name, args)
		seen[err]++
	}
	for _, err := range []api.Errno{api.OK, api.ErrSyntax, api.ErrRange, api.ErrTooLarge, api.ErrForm, api.ErrOverflow, api.ErrZero} {
		if seen[err] < 50 {
			t.Errorf("only %d of the lists have the error %v", seen[err], err)
		}
	}
}
