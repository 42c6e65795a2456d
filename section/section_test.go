package section

import (
	"fmt"
	"math"
	"math/rand"
	"slices"
	"strings"
	"testing"

	"transclude/api"
	"transclude/parse"
	"transclude/sample"
	"transclude/tree"
)

const (
	two   = "== A ==\na\n== B ==\nb"
	nests = "x\n= A =\na\n=== B ===\nb\n== C ==\nc\n=== D ===\nd\n= E =\ne\n"
)

// mustHave checks the sections of s in all their fields.
func mustHave(t *testing.T, s string, want ...api.Section) {
	t.Helper()
	got, err := Sections(s)
	if err != api.OK || !slices.Equal(got, want) {
		t.Errorf("Sections(%q) = %v, %v, want %v", s, got, err, want)
	}
}

// mustShow checks the levels and titles of the sections of s, written as "2:A;3:B;".
func mustShow(t *testing.T, s, want string) {
	t.Helper()
	l, err := Sections(s)
	got := ""
	for _, x := range l {
		got += fmt.Sprintf("%d:%s;", x.Level, x.Title)
	}
	if err != api.OK || got != want {
		t.Errorf("Sections(%q) = %q, %v, want %q", s, got, err, want)
	}
}

// mustHaveNone checks that the texts have no sections.
func mustHaveNone(t *testing.T, texts ...string) {
	t.Helper()
	for _, s := range texts {
		mustShow(t, s, "")
	}
}

// mustFind checks the index of the section of l with this name, or that there is none if want is -1.
func mustFind(t *testing.T, l []api.Section, name string, want int) {
	t.Helper()
	got, ok := Find(l, name)
	if ok != (want >= 0) || got != max(want, 0) {
		t.Errorf("Find(%v, %q) = %d, %v, want %d", l, name, got, ok, want)
	}
}

// mustReturn checks a text and an error that a call, described by its format, has returned.
func mustReturn(t *testing.T, got string, err api.Errno, want string, wantErr api.Errno, format string, args ...any) {
	t.Helper()
	if got != want || err != wantErr {
		t.Errorf("%s = %q, %v, want %q, %v", fmt.Sprintf(format, args...), got, err, want, wantErr)
	}
}

func mustLead(t *testing.T, s, want string, wantErr api.Errno) {
	t.Helper()
	got, err := Lead(s)
	mustReturn(t, got, err, want, wantErr, "Lead(%.99q)", s)
}

// mustTell checks Text and Body of a section.
func mustTell(t *testing.T, s string, i int, text, body string, wantErr api.Errno) {
	t.Helper()
	got, err := Text(s, i)
	mustReturn(t, got, err, text, wantErr, "Text(%.99q, %d)", s, i)
	got, err = Body(s, i)
	mustReturn(t, got, err, body, wantErr, "Body(%.99q, %d)", s, i)
}

func mustReplace(t *testing.T, s string, i int, text, want string, wantErr api.Errno) {
	t.Helper()
	got, err := Replace(s, i, text)
	mustReturn(t, got, err, want, wantErr, "Replace(%.99q, %d, %.99q)", s, i, text)
}

// P5.1

func TestExamples(t *testing.T) {
	mustHave(t, "x\n== A ==\na\n=== B ===\nb\n== C",
		api.Section{Level: 2, Title: "A", From: 2, Body: 10, To: 28},
		api.Section{Level: 3, Title: "B", From: 12, Body: 22, To: 28})
	mustHaveNone(t, "== A ==<!-- note -->", "{{x|\n== A ==\n}}")
}

func TestLevels(t *testing.T) {
	mustShow(t, "=a=", "1:a;")
	mustShow(t, "==a==", "2:a;")
	mustShow(t, "===a===", "3:a;")
	mustShow(t, "====a====", "4:a;")
	mustShow(t, "=====a=====", "5:a;")
	mustShow(t, "======a======", "6:a;")
	mustShow(t, "=======a=======", "6:=a=;")
	mustShow(t, "==a=", "1:=a;")
	mustShow(t, "=a==", "1:a=;")
	mustShow(t, "== a =====", "2:a ===;")
	mustShow(t, "======== a ======", "6:== a;")
	mustShow(t, "====== a ========", "6:a ==;")
	mustShow(t, "======= a ===", "3:==== a;")
	mustHaveNone(t, "a", "=a", "a=", "==a", "a==", "a=b", "a=b=", "=a=b")
}

func TestTitles(t *testing.T) {
	mustShow(t, "== \t a  b\t \t==", "2:a  b;")
	mustShow(t, "=a=b=", "1:a=b;")
	mustShow(t, "== a = b ==", "2:a = b;")
	mustShow(t, "= = =", "1:=;")
	mustShow(t, "=== ==", "2:=;")
	mustShow(t, "== ===", "2:=;")
	mustShow(t, "======= ======", "6:=;")
	mustShow(t, "== | ==", "2:|;")
	mustShow(t, "== [[a|b]] ==", "2:[[a|b]];")
	mustShow(t, "== <b>a</b> ==", "2:<b>a</b>;")
	mustShow(t, "= \u00e4\xff\x00 =", "1:\u00e4\xff\x00;")
	mustHaveNone(t, "", "=", "==", "===", "======", "=======", "=============", "= =", "== ==", "=\t=", "=== \t ===", "======  ======")
}

func TestBlanksAroundLines(t *testing.T) {
	mustShow(t, "= a = ", "1:a;")
	mustShow(t, "= a =\t", "1:a;")
	mustShow(t, "== a ==\t \t \n= b = \n", "2:a;1:b;")
	mustHaveNone(t, " = a =", "\t= a =", " == a == ", "= \t", "=== ", "= = ", " ", "\t")
}

func TestEachByte(t *testing.T) {
	for c := range 256 {
		b := string([]byte{byte(c)})
		inside, behind, before := fmt.Sprintf("1:%s;", b), "", ""
		switch b {
		case " ", "\t":
			inside, behind = "", "1:a;"
		case "\n":
			inside, behind, before = "", "1:a;", "1:a;"
		case "=":
			inside, behind, before = "", "1:a=;", "1:=a;"
		}
		mustShow(t, "="+b+"=", inside)
		mustShow(t, "=a="+b, behind)
		mustShow(t, b+"=a=", before)
	}
}

func TestBytesThatAreNotPlain(t *testing.T) {
	for _, node := range []string{"<!--n-->", "<!---->", "<nowiki>n</nowiki>", "<nowiki></nowiki>", "{{n}}", "{{n|m=o}}", "{{{n}}}", "{{{n|m}}}",
		"<noinclude>n</noinclude>", "<includeonly></includeonly>", "<onlyinclude>n</onlyinclude>"} {
		mustHaveNone(t, node+"== A ==", "== "+node+" ==", "=="+node+"A==", "== A "+node+"==", "== A =="+node, "== A =="+node+" ", "="+node+"= A ==")
		mustShow(t, node+"\n== A ==\n"+node, "2:A;")
		mustShow(t, "= A =\n== B =="+node+"\n= C =", "1:A;1:C;")
	}
}

func TestNodesOfSeveralLines(t *testing.T) {
	for _, x := range [][2]string{
		{"<!--", "-->"}, {"<nowiki>", "</nowiki>"}, {"{{", "}}"}, {"{{x|", "}}"}, {"{{x|y=", "}}"}, {"{{{", "}}}"}, {"{{{x|", "}}}"},
		{"<noinclude>", "</noinclude>"}, {"<includeonly>", "</includeonly>"}, {"<onlyinclude>", "</onlyinclude>"},
	} {
		open, end := x[0], x[1]
		mustHaveNone(t, open+"\n== A ==\n"+end, open+"\n== A =="+end, open+"== A ==\n"+end, open+"\n"+end+"== A ==", "== A =="+open+"\n"+end)
		mustShow(t, "= A =\n"+open+"\n= B =\n"+end+"\n= C =", "1:A;1:C;")
		mustShow(t, "= A ="+open+"\n"+end+"\n= B =", "1:B;")
	}
}

func TestElementsThatAreNotClosed(t *testing.T) {
	for _, open := range []string{"{{", "{{x|", "{{x|y=", "{{{", "[[", "<nowiki>", "<noinclude>", "<includeonly>", "<onlyinclude>",
		"}}", "}}}", "]]", "-->", "</nowiki>", "</noinclude>", "{{x|<noinclude>[["} {
		mustShow(t, open+"\n== A ==", "2:A;")
		mustShow(t, "== A ==\n"+open, "2:A;")
		mustShow(t, "== "+open+" ==", "2:"+open+";")
	}
	mustHaveNone(t, "<!--\n== A ==", "== A ==<!--", "== <!-- ==")
	mustShow(t, "== A ==\n<!--\n== B ==", "2:A;")
	mustShow(t, strings.Repeat("[[", 20)+"{{x\n== A ==\n}}", "2:A;")
	mustHaveNone(t, strings.Repeat("[[", 19)+"{{x\n== A ==\n}}")
	mustShow(t, "[[x\n== A ==\n]]", "2:A;")
}

func TestOffsets(t *testing.T) {
	mustHave(t, "=a=", api.Section{Level: 1, Title: "a", From: 0, Body: 3, To: 3})
	mustHave(t, "=a= \t", api.Section{Level: 1, Title: "a", From: 0, Body: 5, To: 5})
	mustHave(t, "=a=\n", api.Section{Level: 1, Title: "a", From: 0, Body: 4, To: 4})
	mustHave(t, "=a= \n", api.Section{Level: 1, Title: "a", From: 0, Body: 5, To: 5})
	mustHave(t, "=a=\n\n", api.Section{Level: 1, Title: "a", From: 0, Body: 4, To: 5})
	mustHave(t, "\n\n=a=\nb", api.Section{Level: 1, Title: "a", From: 2, Body: 6, To: 7})
	mustHave(t, "{{n\n}}\n=a=\n<!--", api.Section{Level: 1, Title: "a", From: 7, Body: 11, To: 15})
	mustHave(t, "<nowiki>\n</nowiki>{{{n|\n}}}<noinclude>\n</noinclude>\n=a=", api.Section{Level: 1, Title: "a", From: 52, Body: 55, To: 55})
	mustHave(t, "\u00e4\n=a=", api.Section{Level: 1, Title: "a", From: 3, Body: 6, To: 6})
	mustHave(t, two,
		api.Section{Level: 2, Title: "A", From: 0, Body: 8, To: 10},
		api.Section{Level: 2, Title: "B", From: 10, Body: 18, To: 19})
}

func TestSectionsWithinOthers(t *testing.T) {
	mustHave(t, nests,
		api.Section{Level: 1, Title: "A", From: 2, Body: 8, To: 44},
		api.Section{Level: 3, Title: "B", From: 10, Body: 20, To: 22},
		api.Section{Level: 2, Title: "C", From: 22, Body: 30, To: 44},
		api.Section{Level: 3, Title: "D", From: 32, Body: 42, To: 44},
		api.Section{Level: 1, Title: "E", From: 44, Body: 50, To: 52})
	mustHave(t, "===a===\n==b==\n=c=",
		api.Section{Level: 3, Title: "a", From: 0, Body: 8, To: 8},
		api.Section{Level: 2, Title: "b", From: 8, Body: 14, To: 14},
		api.Section{Level: 1, Title: "c", From: 14, Body: 17, To: 17})
	mustHave(t, "=a=\n==b==\n===c===",
		api.Section{Level: 1, Title: "a", From: 0, Body: 4, To: 17},
		api.Section{Level: 2, Title: "b", From: 4, Body: 10, To: 17},
		api.Section{Level: 3, Title: "c", From: 10, Body: 17, To: 17})
	mustHave(t, "=======a=======\n========b========",
		api.Section{Level: 6, Title: "=a=", From: 0, Body: 16, To: 16},
		api.Section{Level: 6, Title: "==b==", From: 16, Body: 33, To: 33})
}

func TestSectionsOfLongTexts(t *testing.T) {
	heading := "= A =\n"
	s := heading + strings.Repeat("x", 8192-len(heading))
	mustHave(t, s, api.Section{Level: 1, Title: "A", From: 0, Body: 6, To: 8192})
	for _, long := range []string{s + "x", strings.Repeat(heading, 10000)} {
		if l, err := Sections(long); len(l) != 0 || err != api.ErrTooLarge {
			t.Errorf("Sections of %d bytes = %v, %v", len(long), l, err)
		}
	}
	if l, err := Sections(strings.Repeat("=a=\n", 2048)); len(l) != 2048 || err != api.OK || l[2047].From != 8188 {
		t.Errorf("Sections of 2048 headings = %d sections, %v", len(l), err)
	}
	mustHave(t, strings.Repeat("{", 4000)+strings.Repeat("}", 4000)+"\n=a=", api.Section{Level: 1, Title: "a", From: 8001, Body: 8004, To: 8004})
}

// P5.2

func TestFind(t *testing.T) {
	l := []api.Section{{Title: "A"}, {Title: "B b"}, {Title: "A"}, {Title: "C"}}
	mustFind(t, l, "A", 0)
	mustFind(t, l, "B b", 1)
	mustFind(t, l, "C", 3)
	mustFind(t, l, " \t C\t ", 3)
	for _, name := range []string{"a", "", " ", "B", "B  b", "Bb", "A\n", "\nA", "\u00a0A", "A\r", "AA"} {
		mustFind(t, l, name, -1)
	}
	mustFind(t, nil, "A", -1)
	mustFind(t, nil, "", -1)
	found, _ := Sections(nests)
	mustFind(t, found, " D ", 3)
}

func TestFindInAnyList(t *testing.T) {
	l := []api.Section{{Level: -1, Title: " A", From: 9, To: -3}, {Title: "A\t"}, {Title: "\n", Body: math.MaxInt}, {Level: 99}, {Title: "A", From: -1}, {Title: "\xff"}, {}}
	mustFind(t, l, "A", 4)
	mustFind(t, l, " A", 4)
	mustFind(t, l, "A\t", 4)
	mustFind(t, l, "\n", 2)
	mustFind(t, l, " \n\t", 2)
	mustFind(t, l, "", 3)
	mustFind(t, l, "\t ", 3)
	mustFind(t, l, "\xff", 5)
	mustFind(t, l[:3], "A", -1)
}

func TestFindChangesNothing(t *testing.T) {
	l := []api.Section{{Title: " B "}, {Level: 2, Title: "A", From: 1, Body: 2, To: 3}}
	before := slices.Clone(l)
	mustFind(t, l, "B", -1)
	if !slices.Equal(l, before) {
		t.Errorf("Find has changed %v to %v", before, l)
	}
}

// P5.3

func TestLead(t *testing.T) {
	mustLead(t, "", "", api.OK)
	mustLead(t, "no heading\n", "no heading\n", api.OK)
	mustLead(t, two, "", api.OK)
	mustLead(t, nests, "x\n", api.OK)
	mustLead(t, "x\n\n== A", "x\n\n== A", api.OK)
	mustLead(t, "{{x|\n== A ==\n}}\n== B ==\n= C =", "{{x|\n== A ==\n}}\n", api.OK)
	mustLead(t, strings.Repeat("x", 8192), strings.Repeat("x", 8192), api.OK)
	mustLead(t, strings.Repeat("x", 8193), "", api.ErrTooLarge)
	mustLead(t, "x\n= A =\n"+strings.Repeat("x", 8192), "", api.ErrTooLarge)
}

func TestTextAndBody(t *testing.T) {
	mustTell(t, two, 0, "== A ==\na\n", "a\n", api.OK)
	mustTell(t, two, 1, "== B ==\nb", "b", api.OK)
	mustTell(t, nests, 0, nests[2:44], nests[8:44], api.OK)
	mustTell(t, nests, 2, "== C ==\nc\n=== D ===\nd\n", "c\n=== D ===\nd\n", api.OK)
	mustTell(t, nests, 4, "= E =\ne\n", "e\n", api.OK)
	mustTell(t, "x\n= A =", 0, "= A =", "", api.OK)
	mustTell(t, "x\n= A = \n", 0, "= A = \n", "", api.OK)
	mustTell(t, "= A =\n= B =", 0, "= A =\n", "", api.OK)
	mustTell(t, "= A =\n{{x|\n= B =\n}}", 0, "= A =\n{{x|\n= B =\n}}", "{{x|\n= B =\n}}", api.OK)
}

func outside(size int) []int { return []int{-1, size, size + 1, math.MinInt, math.MaxInt} }

func TestTextAndBodyOutside(t *testing.T) {
	for _, i := range outside(2) {
		mustTell(t, two, i, "", "", api.ErrRange)
	}
	for _, i := range outside(0) {
		mustTell(t, "", i, "", "", api.ErrRange)
		mustTell(t, "== A", i, "", "", api.ErrRange)
	}
	long := two + strings.Repeat("x", 8192)
	for _, i := range []int{0, 1, 2, -1, math.MinInt} {
		mustTell(t, long, i, "", "", api.ErrTooLarge)
	}
}

// P5.4

func TestReplace(t *testing.T) {
	mustReplace(t, two, 0, "== C ==\nc\n", "== C ==\nc\n== B ==\nb", api.OK)
	mustReplace(t, two, 0, "c", "c\n== B ==\nb", api.OK)
	mustReplace(t, two, 0, "c\n", "c\n== B ==\nb", api.OK)
	mustReplace(t, two, 0, "\n", "\n== B ==\nb", api.OK)
	mustReplace(t, two, 0, "c\n\n", "c\n\n== B ==\nb", api.OK)
	mustReplace(t, two, 0, "c\n ", "c\n \n== B ==\nb", api.OK)
	mustReplace(t, two, 0, "\xff\r", "\xff\r\n== B ==\nb", api.OK)
	mustReplace(t, two, 0, "", "== B ==\nb", api.OK)
	mustReplace(t, two, 1, "c", "== A ==\na\nc", api.OK)
	mustReplace(t, two, 1, "c\n", "== A ==\na\nc\n", api.OK)
	mustReplace(t, two, 1, "", "== A ==\na\n", api.OK)
	mustReplace(t, nests, 0, "y", "x\ny\n= E =\ne\n", api.OK)
	mustReplace(t, nests, 2, "y", nests[:22]+"y\n= E =\ne\n", api.OK)
	mustReplace(t, nests, 3, "", nests[:32]+nests[44:], api.OK)
	mustReplace(t, nests, 4, "y", nests[:44]+"y", api.OK)
	mustReplace(t, "= A =", 0, "", "", api.OK)
	mustReplace(t, "= A =", 0, "{{x", "{{x", api.OK)
	mustReplace(t, "= A =\n= B =\n", 0, "<!--", "<!--\n= B =\n", api.OK)
}

func TestReplaceUpToTheLimit(t *testing.T) {
	fill := func(n int) string { return strings.Repeat("x", n) }
	mustReplace(t, two, 1, fill(8182), two[:10]+fill(8182), api.OK)
	mustReplace(t, two, 1, fill(8183), "", api.ErrTooLarge)
	mustReplace(t, two, 0, fill(8182), fill(8182)+"\n"+two[10:], api.OK)
	mustReplace(t, two, 0, fill(8183), "", api.ErrTooLarge)
	mustReplace(t, two, 0, fill(8182)+"\n", fill(8182)+"\n"+two[10:], api.OK)
	mustReplace(t, two, 0, fill(8183)+"\n", "", api.ErrTooLarge)
	mustReplace(t, two, 0, fill(100000), "", api.ErrTooLarge)
	full := fill(8185) + "\n= A =\n"
	mustReplace(t, full, 0, fill(6), fill(8185)+"\n"+fill(6), api.OK)
	mustReplace(t, full, 0, fill(7), "", api.ErrTooLarge)
}

func TestReplaceErrorsInOrder(t *testing.T) {
	huge := strings.Repeat("x", 8193)
	long := two + huge
	for _, i := range []int{0, -1, 2, math.MaxInt} {
		mustReplace(t, long, i, "", "", api.ErrTooLarge)
		mustReplace(t, long, i, huge, "", api.ErrTooLarge)
	}
	mustReplace(t, "= A =\n"+huge, 0, "a", "", api.ErrTooLarge)
	for _, i := range outside(2) {
		mustReplace(t, two, i, "c", "", api.ErrRange)
		mustReplace(t, two, i, huge, "", api.ErrRange)
	}
	for _, i := range outside(0) {
		mustReplace(t, "", i, "", "", api.ErrRange)
		mustReplace(t, "a", i, huge, "", api.ErrRange)
	}
	mustReplace(t, two, 0, huge, "", api.ErrTooLarge)
}

// P5.5, and P5.1 to P5.4 compared with a reading of them by their words

// wordsPlain returns a "+" for each plain byte of s and a "-" for each other byte.
func wordsPlain(s string) string {
	nodes, _ := parse.Parse(s)
	marks := ""
	for i, n := range nodes {
		mark := "-"
		if n.Kind == api.NodeText {
			mark = "+"
		}
		marks += strings.Repeat(mark, len(tree.Source(nodes[:i+1]))-len(marks))
	}
	return marks
}

// wordsHeading reads a line without its line feed; the level is 0 if it is no heading.
func wordsHeading(line string) (int, string) {
	isBlank := func(b byte) bool { return b == 32 || b == 9 }
	for line != "" && isBlank(line[len(line)-1]) {
		line = line[:len(line)-1]
	}
	if !strings.ContainsFunc(line, func(r rune) bool { return r != '=' }) {
		return 0, ""
	}
	level := 0
	for level < 6 && line[0] == '=' && line[len(line)-1] == '=' {
		line = line[1 : len(line)-1]
		level++
	}
	for line != "" && isBlank(line[0]) {
		line = line[1:]
	}
	for line != "" && isBlank(line[len(line)-1]) {
		line = line[:len(line)-1]
	}
	if line == "" {
		return 0, ""
	}
	return level, line
}

// wordsSections returns what Sections should return.
func wordsSections(s string) []api.Section {
	plain := wordsPlain(s)
	var l []api.Section
	for from := 0; from <= len(s); {
		to := from
		for to < len(s) && s[to] != '\n' {
			to++
		}
		level, title := wordsHeading(s[from:to])
		if level > 0 && !strings.Contains(plain[from:to], "-") {
			for i := range l {
				if l[i].To == len(s) && l[i].Level >= level {
					l[i].To = from
				}
			}
			l = append(l, api.Section{Level: level, Title: title, From: from, Body: min(to+1, len(s)), To: len(s)})
		}
		from = to + 1
	}
	return l
}

// mustBeAsWords checks all functions but Find for s.
func mustBeAsWords(t *testing.T, s string) {
	t.Helper()
	want := wordsSections(s)
	mustHave(t, s, want...)
	lead := s
	if len(want) > 0 {
		lead = s[:want[0].From]
	}
	mustLead(t, s, lead, api.OK)
	for i, x := range want {
		mustTell(t, s, i, s[x.From:x.To], s[x.Body:x.To], api.OK)
		mustReplace(t, s, i, s[x.From:x.To], s, api.OK)
		mustReplace(t, s, i, "", s[:x.From]+s[x.To:], api.OK)
		if len(s) < 8000 {
			feed := "\n"
			if x.To == len(s) {
				feed = ""
			}
			mustReplace(t, s, i, "new", s[:x.From]+"new"+feed+s[x.To:], api.OK)
		}
		mustContainDeeper(t, s, want, i)
	}
	mustTell(t, s, len(want), "", "", api.ErrRange)
	mustReplace(t, s, len(want), "new", "", api.ErrRange)
	if t.Failed() {
		t.FailNow()
	}
}

// mustContainDeeper checks that section i contains those of greater level that follow, and ends before the next other one.
func mustContainDeeper(t *testing.T, s string, l []api.Section, i int) {
	t.Helper()
	inside := true
	for j := i + 1; j < len(l); j++ {
		inside = inside && l[j].Level > l[i].Level
		if inside && l[j].To > l[i].To || !inside && l[j].From < l[i].To {
			t.Errorf("%q: section %d within section %d: want %v", s, j, i, inside)
		}
	}
}

func TestReplaceByTheSame(t *testing.T) {
	for _, s := range []string{two, nests, two + "\n", "= A =", "= A =\n", "= A = \t\n\n=== B ===", "= A =\n{{x\n}}\n= B =\n<!--"} {
		l, _ := Sections(s)
		for i := range l {
			text, _ := Text(s, i)
			mustReplace(t, s, i, text, s, api.OK)
		}
	}
}

func TestAllShortTexts(t *testing.T) {
	check := func(s string) { mustBeAsWords(t, s) }
	sample.Texts(7, []string{"=", "a", " ", "\n"}, check)
	sample.Texts(5, []string{"=", "==", "a", " ", "\t", "\n", "\r", "\xff"}, check)
	sample.Texts(5, []string{"=a=", "==b==", "======c======", "=======d=======", "\n", "x"}, check)
	sample.Texts(6, []string{"=a=", "\n", "{{", "}}", "|"}, check)
	sample.Texts(4, []string{"=a=", "=", " ", "\n", "<!--c-->", "<!--", "-->", "<nowiki>", "</nowiki>", "<noinclude>", "</noinclude>", "[[", "{{{", "}}}"}, check)
}

func TestLongTexts(t *testing.T) {
	random := rand.New(rand.NewSource(6))
	all := []string{"\n", "\n", "\n= A =\n", "\n== B ==\n", "\n=== C ===\n", "\n====== D ======", "=", "==", " ", "\t", "a", "{{", "}}", "|", "{{{", "}}}",
		"[[", "]]", "<!--", "-->", "<!--c-->", "<nowiki>", "</nowiki>", "<noinclude>", "</noinclude>", "\xff", "\r"}
	for range 1000 {
		pieces := slices.Clone(all)
		random.Shuffle(len(pieces), func(i, j int) { pieces[i], pieces[j] = pieces[j], pieces[i] })
		pieces = pieces[:1+random.Intn(len(pieces))]
		s := ""
		for range random.Intn(60) {
			s += pieces[random.Intn(len(pieces))]
		}
		mustBeAsWords(t, s)
	}
}

func TestArbitraryBytes(t *testing.T) {
	random := rand.New(rand.NewSource(7))
	for range 30 {
		s := make([]byte, random.Intn(8193))
		for i := range s {
			s[i] = byte(random.Intn(256))
			if random.Intn(2) == 0 {
				s[i] = "==\n\n {}"[random.Intn(7)]
			}
		}
		mustBeAsWords(t, string(s))
	}
}

// P0.1

func TestSectionsIsPure(t *testing.T) {
	l, _ := Sections(nests)
	want := slices.Clone(l)
	clear(l)
	mustHave(t, nests, want...)
}
