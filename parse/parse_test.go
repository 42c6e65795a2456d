package parse

import (
	"fmt"
	"math/rand"
	"slices"
	"strings"
	"testing"

	"transclude/api"
	"transclude/sample"
	"transclude/token"
	"transclude/tree"
)

// show writes a tree such that different trees without empty texts have different texts.
func show(l []api.Node) string {
	var out strings.Builder
	for _, n := range l {
		switch n.Kind {
		case api.NodeText:
			fmt.Fprintf(&out, "%q", n.Text)
		case api.NodeComment:
			fmt.Fprintf(&out, "comment%q", n.Text)
		case api.NodeNowiki:
			fmt.Fprintf(&out, "nowiki%q", n.Text)
		case api.NodeCall:
			fmt.Fprintf(&out, "call(%s%s)", show(n.Kids), showArgs(n.Args))
		case api.NodeParam:
			fmt.Fprintf(&out, "param(%s%s)", show(n.Kids), showArgs(n.Args))
		case api.NodeTag:
			fmt.Fprintf(&out, "tag%d(%s)", n.Tag, show(n.Kids))
		default:
			fmt.Fprintf(&out, "kind%d", n.Kind)
		}
	}
	return out.String()
}

func showArgs(args []api.Arg) string {
	out := ""
	for _, a := range args {
		out += "|"
		if a.Named {
			out += show(a.Name) + "="
		}
		out += show(a.Value)
	}
	return out
}

// mustParse checks the tree of s, and P4.2 for it.
func mustParse(t *testing.T, s, want string) {
	t.Helper()
	got, err := Parse(s)
	if err != api.OK || show(got) != want {
		t.Errorf("Parse(%q) = %s, %v, want %s", s, show(got), err, want)
	}
	mustFit(t, s, got)
}

// mustFit checks P4.2 for the tree l of s.
func mustFit(t *testing.T, s string, l []api.Node) {
	t.Helper()
	if got := tree.Source(l); got != s {
		t.Fatalf("the source of the tree of %q is %q", s, got)
	}
	mustBeJoined(t, s, l)
}

// mustBeJoined checks that no list of the tree of s has an empty text or two texts in succession.
func mustBeJoined(t *testing.T, s string, l []api.Node) {
	t.Helper()
	for i, n := range l {
		if n.Kind == api.NodeText && n.Text == "" {
			t.Fatalf("the tree of %q has an empty text", s)
		}
		if i > 0 && n.Kind == api.NodeText && l[i-1].Kind == api.NodeText {
			t.Fatalf("the tree of %q has the successive texts %q and %q", s, l[i-1].Text, n.Text)
		}
		mustBeJoined(t, s, n.Kids)
		for _, a := range n.Args {
			mustBeJoined(t, s, a.Name)
			mustBeJoined(t, s, a.Value)
		}
	}
}

// mustBeText checks that the tree of each text is this text, as one node.
func mustBeText(t *testing.T, texts ...string) {
	t.Helper()
	for _, s := range texts {
		mustParse(t, s, fmt.Sprintf("%q", s))
	}
}

// P4.1

func TestExamples(t *testing.T) {
	mustParse(t, "{{a|b=c|{{{d|e}}}}}", `call("a"|"b"="c"|param("d"|"e"))`)
	mustParse(t, "{{{{a}}}}", `"{"param("a")"}"`)
	mustParse(t, "{{a|[[b|c]]}}", `call("a"|"[[b|c]]")`)
	mustParse(t, "{{a|[[b}}", `call("a"|"[[b")`)
	mustParse(t, "{{a", `"{{a"`)
	mustParse(t, "<noinclude>{{a</noinclude>}}", `tag1("{{a")"}}"`)
}

func TestText(t *testing.T) {
	mustParse(t, "", "")
	mustBeText(t, "a", "\n", "a\nb\n\n", "|", "=", "a|b=c", "{", "}", "{a}", "[a]", "<b>", "</nowiki>", "<nowiki>", "<!-", "-->")
	for c := range 256 {
		text := string([]byte{byte(c)})
		mustBeText(t, text)
		want := fmt.Sprintf("call(%q|%q)", "x", "<"+text+">")
		if c == '|' || c == '=' {
			want = fmt.Sprintf("call(%q|%q%s%q)", "x", "<", text, ">")
		}
		mustParse(t, "{{x|<"+text+">}}", want)
	}
	mustBeText(t, "\xff\x00\n\xc3|\xa4=", "ä\u2028\r\n")
	mustParse(t, "\xff{{\x00\n|\xc3=\xa4}}", `"\xff"call("\x00\n"|"\xc3"="\xa4")`)
}

func TestComments(t *testing.T) {
	mustParse(t, "<!---->", `comment"<!---->"`)
	mustParse(t, "a<!--{{|=}}-->b", `"a"comment"<!--{{|=}}-->""b"`)
	mustParse(t, "<!--a--><!--b-->", `comment"<!--a-->"comment"<!--b-->"`)
	mustParse(t, "{{a<!--b}}", `"{{a"comment"<!--b}}"`)
	mustParse(t, "{{a<!--b-->|<!--c-->=<!--d-->}}", `call("a"comment"<!--b-->"|comment"<!--c-->"=comment"<!--d-->")`)
	mustParse(t, "{<!---->{a}}", `"{"comment"<!---->""{a}}"`)
	mustParse(t, "[[<!---->]]", `"[["comment"<!---->""]]"`)
}

func TestNowiki(t *testing.T) {
	mustParse(t, "<nowiki></nowiki>", `nowiki""`)
	mustParse(t, "<nowiki>{{a|b}}</nowiki>", `nowiki"{{a|b}}"`)
	mustParse(t, "<nowiki><nowiki></nowiki></nowiki>", `nowiki"<nowiki>""</nowiki>"`)
	mustParse(t, "<nowiki> <!-- </nowiki>-->", `nowiki" <!-- ""-->"`)
	mustParse(t, "{{a|<nowiki>}}|=</nowiki>=<nowiki>\xff</nowiki>}}", `call("a"|nowiki"}}|="=nowiki"\xff")`)
	mustParse(t, "{{a<nowiki>}}", `call("a<nowiki>")`)
	mustParse(t, "[[<nowiki>]]</nowiki>]]", `"[["nowiki"]]""]]"`)
}

func TestBars(t *testing.T) {
	mustParse(t, "{{|}}", `call(|)`)
	mustParse(t, "{{||}}", `call(||)`)
	mustParse(t, "{{a|b|c}}", `call("a"|"b"|"c")`)
	mustParse(t, "{{{|}}}", `param(|)`)
	mustParse(t, "{{{a|b|c}}}", `param("a"|"b"|"c")`)
	mustParse(t, "{{a|{{b|c}}|d}}", `call("a"|call("b"|"c")|"d")`)
	// In a link or a tag, a bar is text, whatever is around it.
	mustParse(t, "{{a[[|]]b}}", `call("a[[|]]b")`)
	mustParse(t, "{{a<noinclude>|</noinclude>|b}}", `call("a"tag1("|")|"b")`)
	mustBeText(t, "a|b", "[[a|b]]", "[[a|b", "a|b]]")
}

func TestEquals(t *testing.T) {
	mustParse(t, "{{a=b}}", `call("a=b")`)
	mustParse(t, "{{=|=}}", `call("="|=)`)
	mustParse(t, "{{a|=b}}", `call("a"|="b")`)
	mustParse(t, "{{a|b=}}", `call("a"|"b"=)`)
	mustParse(t, "{{a|b=c=d==e}}", `call("a"|"b"="c=d==e")`)
	mustParse(t, "{{a|b=c|d|e=f}}", `call("a"|"b"="c"|"d"|"e"="f")`)
	mustParse(t, "{{{a|b=c}}}", `param("a"|"b"="c")`)
	mustParse(t, "{{a|{{b}}c=d}}", `call("a"|call("b")"c"="d")`)
	mustParse(t, "{{a|{{b=c}}=d}}", `call("a"|call("b=c")="d")`)
	mustParse(t, "{{a|[[b=c]]=d}}", `call("a"|"[[b=c]]"="d")`)
	mustParse(t, "{{a|<onlyinclude>b=c</onlyinclude>}}", `call("a"|tag3("b=c"))`)
	mustBeText(t, "a=b", "[[a=b]]", "==", "== a ==\n")
}

func TestLinks(t *testing.T) {
	mustBeText(t, "[[a]]", "[[]]", "[[", "]]", "]][[", "[[a[[b]]c]]", "[[[a]]]", "[[a]]b]]")
	mustParse(t, "{{a|[[b|[[c|d]]|e]]|f}}", `call("a"|"[[b|[[c|d]]|e]]"|"f")`)
	mustParse(t, "{{a|b]]|c}}", `call("a"|"b]]"|"c")`)
	mustParse(t, "[[{{a|b]]|c}}]]", `"[["call("a"|"b]]"|"c")"]]"`)
	mustParse(t, "[[<!--a-->{{b}}]]c", `"[["comment"<!--a-->"call("b")"]]c"`)
	mustParse(t, "<includeonly>[[a</includeonly>]]", `tag2("[[a")"]]"`)
	mustParse(t, "[[<includeonly>]]</includeonly>]]", `"[["tag2("]]")"]]"`)
	// A brace ends the links that were opened in it, but not those around it.
	mustParse(t, "{{a|[[b|[[c=}}]]|d", `call("a"|"[[b|[[c=")"]]|d"`)
	mustParse(t, "{{a|b=[[c{{d}}|[[e}}|f", `call("a"|"b"="[[c"call("d")"|[[e")"|f"`)
	mustParse(t, "{{a|[[{{b}}|c]]|d}}", `call("a"|"[["call("b")"|c]]"|"d")`)
}

func TestTags(t *testing.T) {
	for i, name := range []string{"noinclude", "includeonly", "onlyinclude"} {
		open, end, node := "<"+name+">", "</"+name+">", fmt.Sprintf("tag%d", i+1)
		mustParse(t, open+end, node+"()")
		mustParse(t, "a"+open+"b"+end+"c", `"a"`+node+`("b")"c"`)
		mustParse(t, open+open+"a"+end+"b"+end, node+"("+node+`("a")"b")`)
		mustParse(t, open+"{{a|b}}"+end, node+`(call("a"|"b"))`)
		mustParse(t, "{{a|"+open+"b"+end+"=c}}", `call("a"|`+node+`("b")="c")`)
		mustBeText(t, open, end, end+open, open+"a|b=c\n", "{{"+open+"}}", open+"[[]]")
		mustParse(t, open+"a"+open+"b"+end+"c", fmt.Sprintf(`"%sa"%s("b")"c"`, open, node))
		mustParse(t, open+"a"+end+"b"+end, fmt.Sprintf(`%s("a")"b%s"`, node, end))
	}
}

func TestTagsEndElementsAboveThem(t *testing.T) {
	mustParse(t, "<noinclude>[[a</noinclude>b]]", `tag1("[[a")"b]]"`)
	mustParse(t, "<noinclude>{{{{a|b=c|d</noinclude>}}", `tag1("{{{{a|b=c|d")"}}"`)
	mustParse(t, "<noinclude>{{a|b=[[c{{d|</noinclude>e", `tag1("{{a|b=[[c{{d|")"e"`)
	mustParse(t, "<noinclude><onlyinclude>a</noinclude>b</onlyinclude>", `tag1("<onlyinclude>a")"b</onlyinclude>"`)
	mustParse(t, "<noinclude>a<includeonly>b<onlyinclude>c</includeonly>d</onlyinclude></noinclude>",
		`tag1("a"tag2("b<onlyinclude>c")"d</onlyinclude>")`)
	// The last tag of the kind ends, not the first one.
	mustParse(t, "<noinclude>a<onlyinclude>b<noinclude>c[[</noinclude>d", `"<noinclude>a<onlyinclude>b"tag1("c[[")"d"`)
	// The nodes of what is flattened remain nodes.
	mustParse(t, "<noinclude>{{a|{{b}}<!--c-->={{{d}}}<nowiki>e</nowiki></noinclude>",
		`tag1("{{a|"call("b")comment"<!--c-->""="param("d")nowiki"e")`)
	// A tag hides the braces below it, until it ends.
	mustParse(t, "{{a|<includeonly>b}}</includeonly>", `"{{a|"tag2("b}}")`)
	mustParse(t, "{{a|<includeonly>b}}</includeonly>}}", `call("a"|tag2("b}}"))`)
	mustParse(t, "{{a<includeonly>[[}}b", `"{{a<includeonly>[[}}b"`)
	mustParse(t, "{{a<includeonly>{{b}}}}c", `"{{a<includeonly>"call("b")"}}c"`)
	mustParse(t, "{{a|b<noinclude>c|d", `"{{a|b<noinclude>c|d"`)
}

func TestBraces(t *testing.T) {
	mustParse(t, "{{}}", `call()`)
	mustParse(t, "{{a}}", `call("a")`)
	mustParse(t, "{{{}}}", `param()`)
	mustParse(t, "{{{a}}}", `param("a")`)
	mustParse(t, "{{a}}{{b}}c", `call("a")call("b")"c"`)
	mustParse(t, "{{a\n|\nb\n}}\n", `call("a\n"|"\nb\n")"\n"`)
	mustParse(t, "{{{a}}", `"{"call("a")`)
	mustParse(t, "{{a}}}", `call("a")"}"`)
	mustParse(t, "{{{a}}b}", `"{"call("a")"b}"`)
	mustParse(t, "{{a|b}c}}", `call("a"|"b}c")`)
	mustParse(t, "x{{{a}}{{b}}}", `"x{"call("a")call("b")"}"`)
	mustBeText(t, "}}", "}}}{{{", "{a}}", "{{a}", "}}{{")
}

func TestRunsOfBraces(t *testing.T) {
	mustParse(t, "{{{{a}}}}", `"{"param("a")"}"`)
	mustParse(t, "{{{{a}}", `"{{"call("a")`)
	mustParse(t, "{{{{a}}}", `"{"param("a")`)
	mustParse(t, "{{{{a}}}}}", `"{"param("a")"}}"`)
	mustParse(t, "{{{{a}}b}}", `call(call("a")"b")`)
	mustParse(t, "{{{{{a}}}}}", `call(param("a"))`)
	mustParse(t, "{{{{{a}}b}}}", `param(call("a")"b")`)
	mustParse(t, "{{{{{a}}}b}}", `call(param("a")"b")`)
	mustParse(t, "{{{{{{a}}}}}}", `param(param("a"))`)
	mustParse(t, "{{{{{{a}}b}}c}}", `call(call(call("a")"b")"c")`)
	mustParse(t, "{{{{{{a}}}}}", `"{"call(param("a"))`)
	mustParse(t, "{{{{{{{a}}}}}}}", `"{"param(param("a"))"}"`)
	mustParse(t, "{{{{{{a}}}}", `"{{{"param("a")"}"`)
	// One run closes several elements, and is divided anew for each of them.
	mustParse(t, "{{a|{{b|{{c}}}}}}", `call("a"|call("b"|call("c")))`)
	mustParse(t, "{{{a|{{b}}}}}", `param("a"|call("b"))`)
	mustParse(t, "{{a|{{{b}}}}}", `call("a"|param("b"))`)
	mustParse(t, "{{{a|{{{b}}}}}}", `param("a"|param("b"))`)
	mustParse(t, "{{a|{{b}}}}}}}c", `call("a"|call("b"))"}}}c"`)
	mustParse(t, "{{{a|{{{b}}}}}", `"{"call("a"|param("b"))`)
	mustParse(t, "{{a|{{{b}}}}", `"{{a|"param("b")"}"`)
	mustParse(t, "{{a|[[{{b|[[c}}}}d]]", `call("a"|"[["call("b"|"[[c"))"d]]"`)
	// A brace that remains begins with a new name and without arguments.
	mustParse(t, "{{{{a|b=c}}d|e=f}}", `call(call("a"|"b"="c")"d"|"e"="f")`)
	mustParse(t, "{{{{{a|b}}}=c|d=e}}", `call(param("a"|"b")"=c"|"d"="e")`)
	mustParse(t, "{{{{a|b}}c|d", `"{{"call("a"|"b")"c|d"`)
	mustParse(t, "[[{{{{a|b}}]]|c}}", `"[["call(call("a"|"b")"]]"|"c")`)
}

func TestElementsThatAreNeverClosed(t *testing.T) {
	mustBeText(t, "{{a|b=c", "{{{{{", "{{{a|b|c=d=e", "[[a", "[[a|b=c", "<noinclude>a", "{{|", "{{|=", "{{a|[[b|<onlyinclude>c|{{{d|e=f",
		"{{a|b=c=d|=|", "{{[[{{[[", "<noinclude><noinclude>", "{{a|b={{c|d={{e|f")
	mustParse(t, "{{a|{{b}}|c={{{d}}}=", `"{{a|"call("b")"|c="param("d")"="`)
	mustParse(t, "[[{{a}}<!--b-->", `"[["call("a")comment"<!--b-->"`)
	mustParse(t, "<noinclude>a<nowiki>b</nowiki>{{c}}", `"<noinclude>a"nowiki"b"call("c")`)
	mustParse(t, "{{a|<!--b-->={{{c|<includeonly>d</includeonly>", `"{{a|"comment"<!--b-->""={{{c|"tag2("d")`)
	mustParse(t, "{{a|b{{c}}={{d", `"{{a|b"call("c")"={{d"`)
}

func TestNest(t *testing.T) {
	openers := []string{"{{", "{{{", "{{{{{{", "[[", "<noinclude>", "<includeonly>", "<onlyinclude>"}
	for _, open := range openers {
		below := strings.Repeat("[[a", 19)
		mustParse(t, below+"{{x|y}}", fmt.Sprintf("%q", below)+`call("x"|"y")`)
		below += "<noinclude>"
		mustBeText(t, below+open+"x|y=z", below+"{{x}}")
		// What is not opened is not closed either, and the element around it is.
		mustParse(t, strings.Repeat("[[a", 19)+"{{x"+open+"|y=z}}b",
			fmt.Sprintf("%q", strings.Repeat("[[a", 19))+fmt.Sprintf(`call("x%s"|"y"="z")"b"`, open))
	}
	mustParse(t, strings.Repeat("[[", 19)+"<noinclude><noinclude></noinclude></noinclude>",
		fmt.Sprintf("%q", strings.Repeat("[[", 19))+`tag1("<noinclude>")"</noinclude>"`)
	mustParse(t, strings.Repeat("{{|", 20)+"[["+strings.Repeat("|}}", 20), strings.Repeat("call(|", 20)+`"[["|`+strings.Repeat(")|", 19)+")")
	mustParse(t, strings.Repeat("{{|", 21)+strings.Repeat("}}", 21), strings.Repeat("call(|", 20)+`"{{"|`+strings.Repeat(")", 20)+`"}}"`)
}

func TestNestAgain(t *testing.T) {
	// A place that has become free, in whatever way, is used again.
	full := strings.Repeat("[[", 19)
	mustParse(t, full+"{{a}}{{b}}", fmt.Sprintf("%q", full)+`call("a")call("b")`)
	mustParse(t, full+"<onlyinclude></onlyinclude>{{b}}", fmt.Sprintf("%q", full)+`tag3()call("b")`)
	mustParse(t, full+"[[]]{{b}}", fmt.Sprintf("%q", full+"[[]]")+`call("b")`)
	mustParse(t, "{{a"+full+"{{b}}}}{{c}}", fmt.Sprintf("call(%q)", "a"+full+"{{b")+`"}}"call("c")`)
	mustParse(t, "{{a"+full+"}}{{c}}", fmt.Sprintf("call(%q)", "a"+full)+`call("c")`)
	mustParse(t, "<noinclude>"+full+"{{</noinclude>{{c}}", fmt.Sprintf("tag1(%q)", full+"{{")+`call("c")`)
	// A brace is one element, however many nodes come of it.
	mustParse(t, full+strings.Repeat("{", 60)+strings.Repeat("}", 60), fmt.Sprintf("%q", full)+strings.Repeat("param(", 20)+strings.Repeat(")", 20))
	mustParse(t, full+"{{{{a}}[[b|c}}", fmt.Sprintf("%q", full)+`call(call("a")"[[b"|"c")`)
}

func TestLength(t *testing.T) {
	pieces := []string{"x", "\xff", "\n", "|", "=", "{{", "{{{", "}}", "[[", "]]", "{{|", "{{|=", "[[]]", "{{}}", "{{{}}}", "<!---->", "<nowiki></nowiki>",
		"<noinclude>", "</noinclude>", "<includeonly></includeonly>", "<nowiki>"}
	for _, piece := range pieces {
		s := strings.Repeat(piece, 8192)
		l, err := Parse(s[:8192])
		if err != api.OK {
			t.Errorf("Parse of 8192 bytes of %q = %v", piece, err)
		}
		mustFit(t, s[:8192], l)
		for _, n := range []int{8193, 8194, len(s) + 1} {
			l, err := Parse((s + s)[:n])
			if len(l) != 0 || err != api.ErrTooLarge {
				t.Errorf("Parse of %d bytes of %q = %d nodes, %v", n, piece, len(l), err)
			}
		}
	}
}

func TestDeepTrees(t *testing.T) {
	half := 4096
	mustParse(t, strings.Repeat("{", half)+strings.Repeat("}", half), `"{"`+strings.Repeat("param(", 1365)+strings.Repeat(")", 1365)+`"}"`)
	mustParse(t, strings.Repeat("{", 3200)+strings.Repeat("}}a", 1600), strings.Repeat("call(", 1600)+strings.Repeat(`)"a"`, 1600))
	mustParse(t, strings.Repeat("{", 2000)+strings.Repeat("|}}", 2000)[:6000],
		strings.Repeat("call(", 1000)+"|)"+strings.Repeat("|)", 999)+fmt.Sprintf("%q", strings.Repeat("|}}", 1000)))
}

// frame is an element in the words of the chapter; what is root, link, tag or brace.
type frame struct {
	what       string
	tag, count int
	content    []api.Node
	args       []api.Arg
}

// slow follows P4.1 by its words.
type slow struct{ stack []*frame }

func (p *slow) top() *frame { return p.stack[len(p.stack)-1] }

func (p *slow) remove() *frame {
	f := p.top()
	p.stack = p.stack[:len(p.stack)-1]
	return f
}

func (p *slow) list() *[]api.Node {
	f := p.top()
	if f.what == "brace" && len(f.args) > 0 {
		return &f.args[len(f.args)-1].Value
	}
	return &f.content
}

func (p *slow) text(text string) {
	l := p.list()
	switch n := len(*l); {
	case text == "":
	case n > 0 && (*l)[n-1].Kind == api.NodeText:
		changed := slices.Clone(*l)
		changed[n-1].Text += text
		*l = changed
	default:
		*l = append(*l, api.Node{Kind: api.NodeText, Text: text})
	}
}

func (p *slow) node(n api.Node) {
	l := p.list()
	*l = append(*l, n)
}

func (p *slow) nodes(l []api.Node) {
	for _, n := range l {
		if n.Kind == api.NodeText {
			p.text(n.Text)
		} else {
			p.node(n)
		}
	}
}

func (p *slow) flatten() {
	f := p.remove()
	switch f.what {
	case "link":
		p.text("[[")
		p.nodes(f.content)
	case "tag":
		p.text([]string{"", "<noinclude>", "<includeonly>", "<onlyinclude>"}[f.tag])
		p.nodes(f.content)
	case "brace":
		p.text(strings.Repeat("{", f.count))
		p.nodes(f.content)
		for _, a := range f.args {
			p.text("|")
			if a.Named {
				p.nodes(a.Name)
				p.text("=")
			}
			p.nodes(a.Value)
		}
	}
}

func (p *slow) open(text string, f *frame) {
	if len(p.stack)-1 == 20 {
		p.text(text)
	} else {
		p.stack = append(p.stack, f)
	}
}

func (p *slow) closeTag(text string, tag int) {
	if !slices.ContainsFunc(p.stack, func(f *frame) bool { return f.what == "tag" && f.tag == tag }) {
		p.text(text)
		return
	}
	for p.top().what != "tag" || p.top().tag != tag {
		p.flatten()
	}
	f := p.remove()
	p.node(api.Node{Kind: api.NodeTag, Tag: tag, Kids: f.content})
}

// braceInReach reports whether there is a brace on the stack with no tag above it.
func (p *slow) braceInReach() bool {
	found := false
	for _, f := range p.stack {
		found = f.what == "brace" || found && f.what == "link"
	}
	return found
}

func (p *slow) closeBraces(c int) {
	for c >= 2 && p.braceInReach() {
		for p.top().what == "link" {
			p.flatten()
		}
		f := p.top()
		n := api.Node{Kind: api.NodeCall, Kids: f.content, Args: f.args}
		k := 2
		if c >= 3 && f.count >= 3 {
			k = 3
			n.Kind = api.NodeParam
		}
		c -= k
		m := f.count - k
		if m >= 2 {
			p.stack[len(p.stack)-1] = &frame{what: "brace", count: m, content: []api.Node{n}}
			continue
		}
		p.remove()
		if m == 1 {
			p.text("{")
		}
		p.node(n)
	}
	p.text(strings.Repeat("}", c))
}

func (p *slow) take(kind int, text string, tag int) {
	f := p.top()
	last := len(f.args) - 1
	switch kind {
	case api.TokText, api.TokNewline:
		p.text(text)
	case api.TokComment:
		p.node(api.Node{Kind: api.NodeComment, Text: text})
	case api.TokNowiki:
		p.node(api.Node{Kind: api.NodeNowiki, Text: text[8 : len(text)-9]})
	case api.TokOpen:
		p.open(text, &frame{what: "brace", count: len(text)})
	case api.TokLinkOpen:
		p.open(text, &frame{what: "link"})
	case api.TokTagOpen:
		p.open(text, &frame{what: "tag", tag: tag})
	case api.TokBar:
		if f.what == "brace" {
			f.args = append(f.args, api.Arg{})
		} else {
			p.text(text)
		}
	case api.TokEqual:
		if f.what == "brace" && last >= 0 && !f.args[last].Named {
			f.args[last] = api.Arg{Named: true, Name: f.args[last].Value}
		} else {
			p.text(text)
		}
	case api.TokLinkClose:
		if f.what == "link" {
			p.remove()
			p.text("[[")
			p.nodes(f.content)
		}
		p.text("]]")
	case api.TokTagClose:
		p.closeTag(text, tag)
	case api.TokClose:
		p.closeBraces(len(text))
	}
}

func slowParse(s string) []api.Node {
	tokens, _ := token.Scan(s)
	p := slow{stack: []*frame{{what: "root"}}}
	for _, t := range tokens {
		p.take(t.Kind, token.Text(s, t), token.Tag(s, t))
	}
	for len(p.stack) > 1 {
		p.flatten()
	}
	return p.top().content
}

// mustBeAsSlow compares the tree of s with that of slowParse.
func mustBeAsSlow(t *testing.T, s string) {
	t.Helper()
	got, err := Parse(s)
	want := slowParse(s)
	if err != api.OK || !tree.Equal(got, want) {
		t.Fatalf("Parse(%q) = %s, %v, want %s", s, show(got), err, show(want))
	}
	mustFit(t, s, got)
}

func allPieces() []string {
	return []string{"a", "\n", "\xff", "|", "=", "{", "}", "{{", "{{{", "}}", "}}}", "[[", "]]", "<!--c-->", "<nowiki>n</nowiki>", "<nowiki>",
		"<noinclude>", "</noinclude>", "<includeonly>", "</includeonly>", "<onlyinclude>", "</onlyinclude>"}
}

func TestAllShortTexts(t *testing.T) {
	check := func(s string) { mustBeAsSlow(t, s) }
	sample.Texts(3, allPieces(), check)
	sample.Texts(8, []string{"{", "}", "a", "|"}, check)
	sample.Texts(6, []string{"{{", "}}", "[[", "]]", "|", "="}, check)
	sample.Texts(6, []string{"{{{", "}}", "|", "=", "<noinclude>", "</noinclude>"}, check)
	sample.Texts(6, []string{"<noinclude>", "</noinclude>", "<onlyinclude>", "</onlyinclude>", "[[", "{{|"}, check)
}

func TestLongTexts(t *testing.T) {
	random := rand.New(rand.NewSource(4))
	for range 2000 {
		pieces := allPieces()
		random.Shuffle(len(pieces), func(i, j int) { pieces[i], pieces[j] = pieces[j], pieces[i] })
		pieces = pieces[:1+random.Intn(len(pieces))]
		s := ""
		for range random.Intn(400) {
			s += pieces[random.Intn(len(pieces))]
		}
		mustBeAsSlow(t, s[:min(len(s), 8192)])
	}
}

func TestArbitraryBytes(t *testing.T) {
	random := rand.New(rand.NewSource(5))
	for range 200 {
		s := make([]byte, random.Intn(8193))
		for i := range s {
			s[i] = byte(random.Intn(256))
			if random.Intn(2) == 0 {
				s[i] = "{}[]|=\n<>"[random.Intn(9)]
			}
		}
		mustBeAsSlow(t, string(s))
	}
}

// P0.1

func TestParseIsPure(t *testing.T) {
	s := "a{{{{{b|c=d}}}|e<noinclude>f</noinclude>=g<!--h-->|[[i}}<nowiki>j</nowiki>{{k"
	first, _ := Parse(s)
	want := show(first)
	overwrite(first)
	mustParse(t, s, want)
}

// overwrite changes all memory of a list.
func overwrite(l []api.Node) {
	for i := range l {
		overwrite(l[i].Kids)
		for j := range l[i].Args {
			overwrite(l[i].Args[j].Name)
			overwrite(l[i].Args[j].Value)
			l[i].Args[j] = api.Arg{}
		}
		l[i] = api.Node{}
	}
}

// lists returns all lists of a tree.
func lists(l []api.Node) [][]api.Node {
	all := [][]api.Node{l}
	for _, n := range l {
		all = append(all, lists(n.Kids)...)
		for _, a := range n.Args {
			all = append(all, lists(a.Name)...)
			all = append(all, lists(a.Value)...)
		}
	}
	return all
}

func TestListsShareNoMemory(t *testing.T) {
	s := "{{a|{{{b|c}}}=d|e}}f{{g|{{h}}{{i{{j|k=l"
	l, _ := Parse(s)
	want := show(l)
	for _, list := range lists(l) {
		// What is written behind the end of a list must not appear in another one.
		for i := range list[len(list):cap(list)] {
			list[len(list):cap(list)][i] = api.Node{Kind: -1}
		}
	}
	if got := show(l); got != want {
		t.Errorf("the lists of the tree of %q share memory: %s, before %s", s, got, want)
	}
}
