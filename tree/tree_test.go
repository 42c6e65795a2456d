package tree

import (
	"math"
	"reflect"
	"slices"
	"strings"
	"testing"

	"transclude/api"
	"transclude/sample"
)

func text(s string) api.Node { return api.Node{Kind: api.NodeText, Text: s} }

func comment(s string) api.Node { return api.Node{Kind: api.NodeComment, Text: s} }

func nowiki(s string) api.Node { return api.Node{Kind: api.NodeNowiki, Text: s} }

func call(name []api.Node, args ...api.Arg) api.Node {
	return api.Node{Kind: api.NodeCall, Kids: name, Args: args}
}

func param(name []api.Node, args ...api.Arg) api.Node {
	return api.Node{Kind: api.NodeParam, Kids: name, Args: args}
}

func tag(n int, kids ...api.Node) api.Node {
	return api.Node{Kind: api.NodeTag, Tag: n, Kids: kids}
}

func list(l ...api.Node) []api.Node { return l }

func named(name, value []api.Node) api.Arg { return api.Arg{Named: true, Name: name, Value: value} }

func value(l ...api.Node) api.Arg { return api.Arg{Value: l} }

// full is a node in which every field is set, whatever its Kind makes of it.
func full(kind int) api.Node {
	return api.Node{Kind: kind, Tag: api.TagNoinclude, Text: "t", Kids: list(text("k"), text("")), Args: []api.Arg{
		{Name: list(text("n"), text("m")), Value: list(text("v"))},
		named(list(text("o")), list(comment("c"), text("w"))),
	}}
}

// allKinds are the Kinds of the chapter and some others.
func allKinds() []int { return []int{math.MinInt, -1, 0, 1, 2, 3, 4, 5, 6, 7, 99, math.MaxInt} }

// pieces are nodes of every form, to build lists of.
func pieces() []api.Node {
	return []api.Node{
		text("a"), text(""), comment("<!--c-->"), nowiki("{{"), {}, {Kind: 9, Text: "z", Kids: list(text("q"))},
		call(list(text("f"), text("g")), value(text(""), text("x")), named(list(text("k"), text("")), list(text("v")))),
		param(nil, api.Arg{Name: list(text("u"), text("u")), Value: list(call(nil))}),
		tag(api.TagIncludeonly, text(""), tag(7, text("h"))), full(api.NodeText), full(api.NodeCall), full(api.NodeTag),
	}
}

// deep is a list of n levels, one node each.
func deep(n int) []api.Node {
	var l []api.Node
	for i := range n {
		switch i % 4 {
		case 0:
			l = list(call(l))
		case 1:
			l = list(param(nil, value(l...)))
		case 2:
			l = list(call(nil, named(l, nil)))
		case 3:
			l = list(tag(api.TagNoinclude, l...))
		}
	}
	return l
}

func mustHaveSource(t *testing.T, want string, l ...api.Node) {
	t.Helper()
	if got := Source(l); got != want {
		t.Errorf("Source(%+v) = %q, want %q", l, got, want)
	}
}

// P3.1

func TestSourceOfEachKind(t *testing.T) {
	mustHaveSource(t, "")
	mustHaveSource(t, "a\xff\n{{", text("a\xff\n{{"))
	mustHaveSource(t, "<!--x-->", comment("<!--x-->"))
	mustHaveSource(t, "x", comment("x"))
	mustHaveSource(t, "<nowiki>b</nowiki>", nowiki("b"))
	mustHaveSource(t, "<nowiki></nowiki>", nowiki(""))
	mustHaveSource(t, "{{a}}", call(list(text("a"))))
	mustHaveSource(t, "{{}}", call(nil))
	mustHaveSource(t, "{{{a}}}", param(list(text("a"))))
	mustHaveSource(t, "{{{}}}", param(nil))
	mustHaveSource(t, "<noinclude>y</noinclude>", tag(api.TagNoinclude, text("y")))
	mustHaveSource(t, "<includeonly>y</includeonly>", tag(api.TagIncludeonly, text("y")))
	mustHaveSource(t, "<onlyinclude></onlyinclude>", tag(api.TagOnlyinclude))
	mustHaveSource(t, "ab<nowiki>c</nowiki>{{d}}e", text("a"), text(""), comment("b"), nowiki("c"), call(list(text("d"))), text("e"))
	if got := Source([]api.Node{}); got != "" {
		t.Errorf("Source of an empty list = %q", got)
	}
}

func TestSourceOfArguments(t *testing.T) {
	mustHaveSource(t, "{{a|k=v}}", call(list(text("a")), named(list(text("k")), list(text("v")))))
	mustHaveSource(t, "{{a|v|w}}", call(list(text("a")), value(text("v")), value(text("w"))))
	mustHaveSource(t, "{{a|||=|k=|=v}}", call(list(text("a")), api.Arg{}, value(), api.Arg{Named: true}, named(list(text("k")), nil), named(nil, list(text("v")))))
	mustHaveSource(t, "{{{a|k=v|w}}}", param(list(text("a")), named(list(text("k")), list(text("v"))), value(text("w"))))
	mustHaveSource(t, "{{|v}}{{{|v}}}", call(nil, api.Arg{Name: list(text("k")), Value: list(text("v"))}), param(nil, api.Arg{Name: list(text("k")), Value: list(text("v"))}))
	mustHaveSource(t, "{{x{{{y|z}}}|{{k}}=<nowiki>v</nowiki><noinclude>w</noinclude>}}",
		call(list(text("x"), param(list(text("y")), value(text("z")))), named(list(call(list(text("k")))), list(nowiki("v"), tag(api.TagNoinclude, text("w"))))))
}

func TestSourceIgnoresOtherFields(t *testing.T) {
	for _, x := range []struct {
		kind int
		want string
	}{
		{api.NodeText, "t"}, {api.NodeComment, "t"}, {api.NodeNowiki, "<nowiki>t</nowiki>"}, {api.NodeCall, "{{k|v|o=cw}}"},
		{api.NodeParam, "{{{k|v|o=cw}}}"}, {api.NodeTag, "<noinclude>k</noinclude>"},
	} {
		mustHaveSource(t, x.want, full(x.kind))
	}
}

func TestSourceOfOtherKindsAndTags(t *testing.T) {
	for _, n := range []int{math.MinInt, -1, 0, 7, 99, math.MaxInt} {
		mustHaveSource(t, "ab", text("a"), full(n), text("b"))
	}
	for _, n := range []int{math.MinInt, -1, 0, 4, 99, math.MaxInt} {
		mustHaveSource(t, "ab", text("a"), tag(n, text("x")), text("b"))
		mustHaveSource(t, "{{||=}}", call(list(tag(n, text("x"))), value(full(9)), named(list(tag(n)), list(tag(n, text("x"))))), tag(n))
	}
}

func TestSourceOfConcatenation(t *testing.T) {
	sample.Lists(2, pieces(), func(l []api.Node) {
		var want strings.Builder
		for _, n := range l {
			want.WriteString(Source(list(n)))
		}
		mustHaveSource(t, want.String(), l...)
	})
}

// P3.2

// variants are the list l and lists that differ from it, and from one another, in one field each.
func variants(l []api.Node) [][]api.Node {
	all := [][]api.Node{l, append(slices.Clip(l), text("")), append(slices.Clip(l), api.Node{})}
	if len(l) > 0 {
		all = append(all, l[:len(l)-1])
	}
	for i, n := range l {
		set := func(change func(n *api.Node)) {
			changed := slices.Clone(l)
			change(&changed[i])
			all = append(all, changed)
		}
		set(func(n *api.Node) { n.Kind += 10 })
		set(func(n *api.Node) { n.Tag += 10 })
		set(func(n *api.Node) { n.Text += "x" })
		set(func(n *api.Node) { n.Args = append(slices.Clip(n.Args), api.Arg{}) })
		for _, kids := range variants(n.Kids)[1:] {
			set(func(n *api.Node) { n.Kids = kids })
		}
		for j, a := range n.Args {
			setArg := func(b api.Arg) {
				set(func(n *api.Node) {
					n.Args = slices.Clone(n.Args)
					n.Args[j] = b
				})
			}
			setArg(api.Arg{Named: !a.Named, Name: a.Name, Value: a.Value})
			for _, name := range variants(a.Name)[1:] {
				setArg(api.Arg{Named: a.Named, Name: name, Value: a.Value})
			}
			for _, value := range variants(a.Value)[1:] {
				setArg(api.Arg{Named: a.Named, Name: a.Name, Value: value})
			}
		}
	}
	return all
}

func TestEqualInAllFields(t *testing.T) {
	for _, kind := range allKinds() {
		below := full(kind)
		below.Kids = append(below.Kids, full(api.NodeComment))
		below.Args[0].Name = append(below.Args[0].Name, full(kind))
		below.Args[1].Value = append(below.Args[1].Value, full(api.NodeTag))
		all := variants(list(text("a"), below))
		for i, a := range all {
			for j, b := range all {
				if got := Equal(a, b); got != (i == j) {
					t.Fatalf("Equal(%+v, %+v) = %v", a, b, got)
				}
			}
		}
	}
}

func TestEqualOfCopies(t *testing.T) {
	for _, kind := range allKinds() {
		if !Equal(list(full(kind), text("")), list(full(kind), text(""))) {
			t.Errorf("a node of the kind %d is not equal to its copy", kind)
		}
	}
	if !Equal(pieces(), pieces()) {
		t.Errorf("a list is not equal to its copy")
	}
	if Equal(list(text("a"), text("b")), list(text("b"), text("a"))) || Equal(list(text("a"), text("b")), list(text("ab"))) {
		t.Errorf("lists with other nodes are equal")
	}
}

func TestEqualOfNilAndEmpty(t *testing.T) {
	none := []api.Node{}
	if !Equal(nil, nil) || !Equal(nil, none) || !Equal(none, nil) || Equal(nil, list(text(""))) || Equal(list(api.Node{}), none) {
		t.Errorf("nil and empty lists are not equal to one another alone")
	}
	a := list(call(nil, api.Arg{}), api.Node{Kind: api.NodeParam})
	b := list(call(none, api.Arg{Name: none, Value: none}), api.Node{Kind: api.NodeParam, Kids: none, Args: []api.Arg{}})
	if !Equal(a, b) || !Equal(b, a) {
		t.Errorf("nil and empty lists within nodes are different")
	}
}

// P3.3

func mustJoin(t *testing.T, l, want []api.Node) {
	t.Helper()
	if got := Join(l); !Equal(got, want) {
		t.Errorf("Join(%+v) = %+v, want %+v", l, got, want)
	}
}

func TestJoinTexts(t *testing.T) {
	mustJoin(t, nil, nil)
	mustJoin(t, []api.Node{}, nil)
	mustJoin(t, list(text("")), nil)
	mustJoin(t, list(text(""), text("")), nil)
	mustJoin(t, list(text("a")), list(text("a")))
	mustJoin(t, list(text("a"), text("b"), text("\xff")), list(text("ab\xff")))
	mustJoin(t, list(text("a"), text(""), text("b"), text("")), list(text("ab")))
	mustJoin(t, list(text("a"), comment(""), text("b"), text("c")), list(text("a"), comment(""), text("bc")))
	mustJoin(t, list(comment("x"), text(""), comment("y")), list(comment("x"), comment("y")))
	mustJoin(t, list(text(""), nowiki("a"), nowiki("b"), text("")), list(nowiki("a"), nowiki("b")))
	mustJoin(t, list(full(api.NodeText)), list(text("t")))
	mustJoin(t, list(text("a"), full(api.NodeText)), list(text("at")))
	mustJoin(t, list(text("a"), api.Node{}, text("b")), list(text("a"), api.Node{}, text("b")))
	empty := full(api.NodeText)
	empty.Text = ""
	mustJoin(t, list(empty), nil)
	mustJoin(t, list(text("a"), empty, text("b")), list(text("ab")))
}

func TestJoinWithinNodes(t *testing.T) {
	for _, kind := range allKinds() {
		if kind == api.NodeText {
			continue
		}
		n := full(kind)
		n.Kids = list(text("k"), full(kind), text(""), text("l"), text("m"))
		below := full(kind)
		below.Kids = list(text("k"))
		below.Args[0].Name = list(text("nm"))
		want := below
		want.Kids = list(text("k"), below, text("lm"))
		mustJoin(t, list(text(""), n), list(want))
	}
	mustJoin(t, list(tag(4, text("a"), text("b"))), list(tag(4, text("ab"))))
	mustJoin(t, list(call(nil, api.Arg{}, value(text("")))), list(call(nil, api.Arg{}, api.Arg{})))
}

// plainJoin follows P3.3 by its words, one step after the other.
func plainJoin(l []api.Node) []api.Node {
	l = slices.DeleteFunc(slices.Clone(l), func(n api.Node) bool { return n.Kind == api.NodeText && n.Text == "" })
	for i := 0; i < len(l); i++ {
		if l[i].Kind != api.NodeText {
			l[i].Kids = plainJoin(l[i].Kids)
			l[i].Args = slices.Clone(l[i].Args)
			for j, a := range l[i].Args {
				l[i].Args[j].Name, l[i].Args[j].Value = plainJoin(a.Name), plainJoin(a.Value)
			}
			continue
		}
		l[i] = text(l[i].Text)
		for i+1 < len(l) && l[i+1].Kind == api.NodeText {
			l[i].Text += l[i+1].Text
			l = slices.Delete(l, i+1, i+2)
		}
	}
	return l
}

func TestJoinAllShortLists(t *testing.T) {
	sample.Lists(3, pieces(), func(l []api.Node) {
		got := Join(l)
		if want := plainJoin(l); !Equal(got, want) {
			t.Fatalf("Join(%+v) = %+v, want %+v", l, got, want)
		}
		if Source(got) != Source(l) {
			t.Fatalf("Join(%+v) has the source %q, want %q", l, Source(got), Source(l))
		}
		if !Equal(Join(got), got) {
			t.Fatalf("Join of the joined list %+v changes it", got)
		}
	})
}

func TestJoinManyTexts(t *testing.T) {
	l := make([]api.Node, 1<<18)
	for i := range l {
		l[i] = text("ab")
	}
	mustJoin(t, l, list(text(strings.Repeat("ab", 1<<18))))
}

func TestJoinSharesNoLists(t *testing.T) {
	l := list(full(api.NodeCall), full(9))
	got := Join(l)
	for i := range got {
		got[i].Kids[0].Text = "changed"
		got[i].Args[0].Named = true
		got[i].Args[0].Name[0].Text = "changed"
		got[i].Args[1].Value[0].Text = "changed"
		got[i].Kind = 0
	}
	if !Equal(l, list(full(api.NodeCall), full(9))) {
		t.Errorf("a change of the joined list changes the list: %+v", l)
	}
}

// P3.4

func mustMeasure(t *testing.T, count, depth int, l ...api.Node) {
	t.Helper()
	if got := Count(l); got != count {
		t.Errorf("Count(%+v) = %d, want %d", l, got, count)
	}
	if got := Depth(l); got != depth {
		t.Errorf("Depth(%+v) = %d, want %d", l, got, depth)
	}
}

func TestMeasures(t *testing.T) {
	mustMeasure(t, 0, 0)
	mustMeasure(t, 0, 0, []api.Node{}...)
	mustMeasure(t, 1, 1, text(""))
	mustMeasure(t, 3, 1, text("a"), comment("b"), nowiki("c"))
	mustMeasure(t, 1, 1, call(nil))
	mustMeasure(t, 1, 1, param([]api.Node{}, api.Arg{}, api.Arg{Named: true}))
	mustMeasure(t, 2, 2, call(list(text("a"))))
	mustMeasure(t, 2, 2, call(nil, value(text("v"))))
	mustMeasure(t, 2, 2, param(nil, named(list(text("k")), nil)))
	mustMeasure(t, 6, 2, param(list(text("a")), named(list(text("k"), text("")), list(text("v"))), value(text("w"))))
	mustMeasure(t, 3, 2, tag(api.TagNoinclude, text("a"), comment("b")))
	mustMeasure(t, 5, 3, text("a"), tag(api.TagNoinclude, call(list(text("b")))), text("c"))
	mustMeasure(t, 7, 4, call(nil, named(list(call(list(text("a")))), list(param(list(call(list(text("b")))))))), text("c"))
}

func TestMeasuresTakeTheGreatestDepth(t *testing.T) {
	for _, l := range [][]api.Node{
		list(tag(1, deep(5)...), call(nil)),
		list(call(nil), tag(1, deep(5)...)),
		list(call(deep(5), value(deep(2)...))),
		list(call(nil, named(deep(2), deep(5)), value(deep(1)...))),
		list(param(deep(1), named(deep(5), deep(2)), value())),
		list(param(deep(3), value(deep(2)...), value(deep(5)...))),
	} {
		if got := Depth(l); got != 6 {
			t.Errorf("Depth(%+v) = %d, want 6", l, got)
		}
	}
}

func TestMeasuresOfOtherKindsAndTags(t *testing.T) {
	mustMeasure(t, 1, 1, api.Node{})
	for _, kind := range []int{math.MinInt, -1, 0, 7, 99, math.MaxInt} {
		mustMeasure(t, 3, 2, api.Node{Kind: kind, Kids: list(text("a"), api.Node{Kind: kind})})
		mustMeasure(t, 3, 2, call(nil, named(list(api.Node{Kind: kind}), list(api.Node{Kind: kind}))))
		mustMeasure(t, 4, 3, api.Node{Kind: kind, Args: []api.Arg{named(list(text("a")), list(api.Node{Kind: kind, Kids: list(text("b"))}))}})
	}
	for _, n := range []int{math.MinInt, -1, 0, 4, 99, math.MaxInt} {
		mustMeasure(t, 4, 3, tag(n, text("a"), tag(n, text("b"))))
	}
}

// The Kids of texts, the Args of tags and the Names of arguments that are not Named do not matter.
func TestMeasuresIgnoreOtherFields(t *testing.T) {
	mustMeasure(t, 1, 1, full(api.NodeText))
	mustMeasure(t, 1, 1, full(api.NodeComment))
	mustMeasure(t, 1, 1, full(api.NodeNowiki))
	mustMeasure(t, 7, 2, full(api.NodeCall))
	mustMeasure(t, 7, 2, full(api.NodeParam))
	mustMeasure(t, 3, 2, full(api.NodeTag))
	mustMeasure(t, 7, 2, full(9))
	mustMeasure(t, 1, 1, call(nil, api.Arg{Name: list(text("k"))}))
}

// P3.5

func mustBePlain(t *testing.T, want string, ok bool, l ...api.Node) {
	t.Helper()
	if got, gotOK := Plain(l); got != want || gotOK != ok {
		t.Errorf("Plain(%+v) = %q, %v, want %q, %v", l, got, gotOK, want, ok)
	}
}

func TestPlain(t *testing.T) {
	mustBePlain(t, "ab", true, text("a"), comment("<!--x-->"), nowiki("b"))
	mustBePlain(t, "", true)
	mustBePlain(t, "", true, []api.Node{}...)
	mustBePlain(t, "", true, comment("<!--x-->"))
	mustBePlain(t, "", true, text(""), nowiki(""))
	mustBePlain(t, "{{\xff\x00a", true, nowiki("{{"), text("\xff\x00"), text("a"))
	mustBePlain(t, "tt", true, full(api.NodeText), full(api.NodeComment), full(api.NodeNowiki))
}

func TestPlainWithOtherKinds(t *testing.T) {
	for _, kind := range allKinds() {
		if kind == api.NodeText || kind == api.NodeComment || kind == api.NodeNowiki {
			continue
		}
		other := api.Node{Kind: kind, Text: "x"}
		mustBePlain(t, "", false, other)
		mustBePlain(t, "", false, other, text("a"))
		mustBePlain(t, "", false, text("a"), nowiki("b"), other)
		mustBePlain(t, "", false, text("a"), full(kind), comment("b"))
	}
}

// R1, R2 and R9

func TestArgumentsStay(t *testing.T) {
	sample.Lists(2, pieces(), func(l []api.Node) {
		copied := copyNodes(l)
		Source(l)
		Join(l)
		Count(l)
		Depth(l)
		Plain(l)
		Equal(l, copied)
		if !reflect.DeepEqual(l, copied) {
			t.Fatalf("%+v has become %+v", copied, l)
		}
	})
}

func copyNodes(l []api.Node) []api.Node {
	l = slices.Clone(l)
	for i := range l {
		l[i].Kids = copyNodes(l[i].Kids)
		l[i].Args = slices.Clone(l[i].Args)
		for j, a := range l[i].Args {
			l[i].Args[j] = api.Arg{Named: a.Named, Name: copyNodes(a.Name), Value: copyNodes(a.Value)}
		}
	}
	return l
}

func TestDeepLists(t *testing.T) {
	const levels = 1 << 16
	l, other := deep(levels), deep(levels)
	if Count(l) != levels || Depth(l) != levels {
		t.Errorf("a list of %d levels has the count %d and the depth %d", levels, Count(l), Depth(l))
	}
	want := 4 + 7 + 6 + len("<noinclude></noinclude>")
	if got := Source(l); len(got) != want*levels/4 || !strings.HasPrefix(got, "<noinclude>{{|{{{|{{<noinclude>") {
		t.Errorf("the source of %d levels has %d bytes", levels, len(got))
	}
	if !Equal(l, other) || Equal(l, deep(levels-4)) || !Equal(Join(l), l) {
		t.Errorf("deep lists are not compared at all levels")
	}
	if s, ok := Plain(l); s != "" || ok {
		t.Errorf("Plain of a deep list = %q, %v", s, ok)
	}
}
