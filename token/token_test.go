package token

import (
	"math"
	"regexp"
	"slices"
	"strings"
	"testing"

	"transclude/api"
	"transclude/sample"
)

// piece is a token with its text in place of its offsets.
type piece struct {
	kind int
	text string
}

// mustScan checks the kinds and the texts of the tokens of s, which follow one another without gaps.
func mustScan(t *testing.T, s string, want ...piece) {
	t.Helper()
	var tokens []api.Token
	at := 0
	for _, p := range want {
		tokens = append(tokens, api.Token{Kind: p.kind, From: at, To: at + len(p.text)})
		if !strings.HasPrefix(s[at:], p.text) {
			t.Fatalf("%q does not continue with %q at %d", s, p.text, at)
		}
		at += len(p.text)
	}
	if at != len(s) {
		t.Fatalf("the pieces of %q end at %d", s, at)
	}
	got, err := Scan(s)
	if !slices.Equal(got, tokens) || err != api.OK {
		t.Errorf("Scan(%q) = %v, %v, want %v", s, got, err, tokens)
	}
}

// mustBeOne checks that the whole text is one token.
func mustBeOne(t *testing.T, kind int, texts ...string) {
	t.Helper()
	for _, s := range texts {
		mustScan(t, s, piece{kind, s})
	}
}

// P2.1

func TestScanExamples(t *testing.T) {
	mustScan(t, "a{{{b}}|c", piece{api.TokText, "a"}, piece{api.TokOpen, "{{{"}, piece{api.TokText, "b"},
		piece{api.TokClose, "}}"}, piece{api.TokBar, "|"}, piece{api.TokText, "c"})
	mustBeOne(t, api.TokText, "{x}", "<nowiki>")
	mustBeOne(t, api.TokComment, "<!--a")
}

func TestScanEmpty(t *testing.T) {
	if got, err := Scan(""); len(got) != 0 || err != api.OK {
		t.Errorf("Scan of the empty text = %v, %v", got, err)
	}
}

func TestScanComment(t *testing.T) {
	mustBeOne(t, api.TokComment, "<!---->", "<!--", "<!-->", "<!--->", "<!-- -- >", "<!--\n|={{[[-->",
		"<!--<nowiki>-->", "<!--<nowiki></nowiki>", "<!--<!---->", "<!--</noinclude>", "<!--\xff\x00-->")
	mustBeOne(t, api.TokText, "<!-", "<!- -a-->", "-->", "< !---->")
	mustScan(t, "<!--a-->-->", piece{api.TokComment, "<!--a-->"}, piece{api.TokText, "-->"})
	mustScan(t, "<!--><!---->", piece{api.TokComment, "<!--><!---->"})
	mustScan(t, "<!----><!-", piece{api.TokComment, "<!---->"}, piece{api.TokText, "<!-"})
	mustScan(t, "<<!--", piece{api.TokText, "<"}, piece{api.TokComment, "<!--"})
}

func TestScanNowiki(t *testing.T) {
	mustBeOne(t, api.TokNowiki, "<nowiki></nowiki>", "<nowiki>{{a|b=c}}\n[[x]]</nowiki>", "<nowiki><!--</nowiki>",
		"<nowiki><nowiki></nowiki>", "<nowiki></noinclude></nowiki>", "<nowiki><!--</nowiki>", "<nowiki>\xff\x00</nowiki>")
	mustBeOne(t, api.TokText, "</nowiki>", "</nowiki><nowiki>", "<Nowiki></Nowiki>", "<nowiki></nowiki >",
		"<nowiki ></nowiki>", "<nowiki></NOWIKI>", "<nowiki>/nowiki>", "<nowiki/></nowiki>")
	mustScan(t, "<nowiki>a</nowiki></nowiki>", piece{api.TokNowiki, "<nowiki>a</nowiki>"}, piece{api.TokText, "</nowiki>"})
	mustScan(t, "<nowiki>{{<!--</nowik>-->", piece{api.TokText, "<nowiki>"}, piece{api.TokOpen, "{{"}, piece{api.TokComment, "<!--</nowik>-->"})
	// An end counts wherever it stands, also in what would otherwise be a comment.
	mustScan(t, "<nowiki><!--</nowiki>-->", piece{api.TokNowiki, "<nowiki><!--</nowiki>"}, piece{api.TokText, "-->"})
	mustScan(t, "a<nowiki>b<nowiki>c", piece{api.TokText, "a<nowiki>b<nowiki>c"})
}

func TestScanTags(t *testing.T) {
	for _, name := range []string{"noinclude", "includeonly", "onlyinclude"} {
		open, end := "<"+name+">", "</"+name+">"
		mustScan(t, "a"+open+open+"b"+end+end+"c", piece{api.TokText, "a"}, piece{api.TokTagOpen, open}, piece{api.TokTagOpen, open},
			piece{api.TokText, "b"}, piece{api.TokTagClose, end}, piece{api.TokTagClose, end}, piece{api.TokText, "c"})
		mustBeOne(t, api.TokText, "<"+name, "</"+name, "< "+name+">", "<"+name+" >", "</ "+name+">", "<"+name+"/>",
			"<"+strings.ToUpper(name)+">", "</"+strings.ToUpper(name[:1])+name[1:]+">", name+">")
		mustScan(t, "<"+open, piece{api.TokText, "<"}, piece{api.TokTagOpen, open})
	}
	mustBeOne(t, api.TokText, "<", "<>", "</", "</>", "<b>")
}

func TestScanBraces(t *testing.T) {
	mustBeOne(t, api.TokText, "{", "}", "{}", "}{", "{a{b}c}")
	for n := 2; n < 10; n++ {
		open, end := strings.Repeat("{", n), strings.Repeat("}", n)
		mustScan(t, open+end, piece{api.TokOpen, open}, piece{api.TokClose, end})
		mustScan(t, end+"{"+end+"a", piece{api.TokClose, end}, piece{api.TokText, "{"}, piece{api.TokClose, end}, piece{api.TokText, "a"})
		mustScan(t, "a"+open+"}"+open, piece{api.TokText, "a"}, piece{api.TokOpen, open}, piece{api.TokText, "}"}, piece{api.TokOpen, open})
	}
}

func TestScanLinks(t *testing.T) {
	mustBeOne(t, api.TokText, "[", "]", "[]", "][", "[a]")
	mustBeOne(t, api.TokLinkOpen, "[[")
	mustBeOne(t, api.TokLinkClose, "]]")
	mustScan(t, "[[[[a]]]]", piece{api.TokLinkOpen, "[["}, piece{api.TokLinkOpen, "[["}, piece{api.TokText, "a"},
		piece{api.TokLinkClose, "]]"}, piece{api.TokLinkClose, "]]"})
	mustScan(t, "[[[a]]]", piece{api.TokLinkOpen, "[["}, piece{api.TokText, "[a"}, piece{api.TokLinkClose, "]]"}, piece{api.TokText, "]"})
	mustScan(t, "[[[]]]", piece{api.TokLinkOpen, "[["}, piece{api.TokText, "["}, piece{api.TokLinkClose, "]]"}, piece{api.TokText, "]"})
}

func TestScanSingleBytes(t *testing.T) {
	for c := range 256 {
		kind := api.TokText
		switch c {
		case '|':
			kind = api.TokBar
		case '=':
			kind = api.TokEqual
		case 10:
			kind = api.TokNewline
		}
		mustBeOne(t, kind, string([]byte{byte(c)}))
	}
	mustScan(t, "||==\n\n", piece{api.TokBar, "|"}, piece{api.TokBar, "|"}, piece{api.TokEqual, "="},
		piece{api.TokEqual, "="}, piece{api.TokNewline, "\n"}, piece{api.TokNewline, "\n"})
	mustScan(t, "\xff\r\n\x00\xc3=\xa4", piece{api.TokText, "\xff\r"}, piece{api.TokNewline, "\n"}, piece{api.TokText, "\x00\xc3"},
		piece{api.TokEqual, "="}, piece{api.TokText, "\xa4"})
}

func TestScanLength(t *testing.T) {
	mustBeOne(t, api.TokText, strings.Repeat("x", 8192), strings.Repeat("<nowiki>", 1024), strings.Repeat("\xff", 8192))
	mustBeOne(t, api.TokOpen, strings.Repeat("{", 8192))
	mustBeOne(t, api.TokComment, strings.Repeat("<!--", 2048))
	if got, err := Scan(strings.Repeat("|", 8192)); len(got) != 8192 || err != api.OK {
		t.Errorf("Scan of 8192 bars = %d tokens, %v", len(got), err)
	}
	for _, s := range []string{strings.Repeat("x", 8193), strings.Repeat("{", 8193), "<!--" + strings.Repeat("\n", 8189), strings.Repeat("|", 1<<20)} {
		if got, err := Scan(s); len(got) != 0 || err != api.ErrTooLarge {
			t.Errorf("Scan of %d bytes = %d tokens, %v", len(s), len(got), err)
		}
	}
}

// rules are the rules 1 to 8 in their order, each a group; kinds are theirs.
var (
	rules = regexp.MustCompile(`\A(?s:(<!--.*?(?:-->|\z))|(<nowiki>.*?</nowiki>)` +
		`|(<(?:noinclude|includeonly|onlyinclude)>)|(</(?:noinclude|includeonly|onlyinclude)>)` +
		`|(\{\{+)|(\}\}+)|(\[\[)|(\]\])|(\|)|(=)|(\n))`)
	kinds = []int{api.TokComment, api.TokNowiki, api.TokTagOpen, api.TokTagClose, api.TokOpen, api.TokClose,
		api.TokLinkOpen, api.TokLinkClose, api.TokBar, api.TokEqual, api.TokNewline}
)

// plainMark returns the kind and the size of the token by the rules 1 to 8 at the beginning of rest.
func plainMark(rest string) (kind, size int) {
	m := rules.FindStringSubmatchIndex(rest)
	if m == nil {
		return 0, 0
	}
	for i, k := range kinds {
		if m[2*i+2] >= 0 {
			kind = k
		}
	}
	return kind, m[1]
}

// plainScan follows P2.1 by its words, token by token.
func plainScan(s string) []api.Token {
	var tokens []api.Token
	for at := 0; at < len(s); {
		kind, size := plainMark(s[at:])
		if size == 0 {
			kind, size = api.TokText, 1
			for at+size < len(s) {
				if _, next := plainMark(s[at+size:]); next > 0 {
					break
				}
				size++
			}
		}
		tokens = append(tokens, api.Token{Kind: kind, From: at, To: at + size})
		at += size
	}
	return tokens
}

func TestScanAllShortTexts(t *testing.T) {
	check := func(s string) {
		got, err := Scan(s)
		if want := plainScan(s); !slices.Equal(got, want) || err != api.OK {
			t.Fatalf("Scan(%q) = %v, %v, want %v", s, got, err, want)
		}
	}
	sample.Texts(3, []string{"a", "\xff", "\n", "|", "=", "{", "}", "[", "]", "<", "/", "!", "-", ">", "nowiki", "<!--", "-->",
		"<nowiki>", "</nowiki>", "<noinclude>", "</includeonly>", "<onlyinclude>"}, check)
	sample.Texts(7, []string{"<", "!--", "-", ">", "{"}, check)
	sample.Texts(7, []string{"{", "}", "[", "]", "a"}, check)
	sample.Texts(5, []string{"<nowiki>", "</nowiki>", "<!--", "-->", "}", "<noinclude>"}, check)
}

// P2.2

func TestText(t *testing.T) {
	s := "a{{\xffb\n"
	for from := range len(s) + 1 {
		for to := from; to <= len(s); to++ {
			for _, kind := range []int{0, api.TokText, api.TokOpen, -1, 99} {
				if got := Text(s, api.Token{Kind: kind, From: from, To: to}); got != s[from:to] {
					t.Errorf("Text from %d to %d = %q, want %q", from, to, got, s[from:to])
				}
			}
		}
	}
	for _, x := range []api.Token{{From: -1, To: 1}, {From: -1, To: -1}, {From: 2, To: 1}, {From: 0, To: 7}, {From: 7, To: 7}, {From: 7, To: 6},
		{From: 0, To: -1}, {From: math.MinInt, To: math.MaxInt}, {From: math.MaxInt, To: math.MinInt}, {From: 0, To: math.MaxInt}, {From: math.MinInt, To: 3}} {
		if got := Text(s, x); got != "" {
			t.Errorf("Text of %v = %q, want the empty string", x, got)
		}
	}
	if got := Text("", api.Token{Kind: api.TokText, To: 1}); got != "" {
		t.Errorf("Text in the empty text = %q", got)
	}
}

func TestTextsOfTokens(t *testing.T) {
	sample.Texts(3, []string{"a", "\n", "|", "{", "}", "[", "<nowiki>", "</nowiki>", "<!--", "<noinclude>"}, func(s string) {
		tokens, _ := Scan(s)
		joined := ""
		for _, x := range tokens {
			joined += Text(s, x)
		}
		if joined != s {
			t.Fatalf("the texts of the tokens of %q are %q", s, joined)
		}
	})
}

// P2.3

func TestTag(t *testing.T) {
	s := "a<noinclude>b</noinclude><includeonly></includeonly>|<onlyinclude></onlyinclude><nowiki></nowiki>{{"
	want := []int{0, api.TagNoinclude, 0, api.TagNoinclude, api.TagIncludeonly, api.TagIncludeonly, 0, api.TagOnlyinclude, api.TagOnlyinclude, 0, 0}
	tokens, _ := Scan(s)
	var got []int
	for _, x := range tokens {
		got = append(got, Tag(s, x))
	}
	if !slices.Equal(got, want) {
		t.Errorf("the tags of %q are %v, want %v", s, got, want)
	}
}

func TestTagOfOtherTokens(t *testing.T) {
	all := []string{"<noinclude>", "<includeonly>", "<onlyinclude>", "</noinclude>", "</includeonly>", "</onlyinclude>"}
	for i, text := range all {
		s := "x" + text + "x"
		for kind := -1; kind < 20; kind++ {
			want := 0
			if kind == api.TokTagOpen && i < 3 || kind == api.TokTagClose && i >= 3 {
				want = i%3 + 1
			}
			for from := -1; from <= len(s)+1; from++ {
				for to := -1; to <= len(s)+1; to++ {
					whole := from == 1 && to == len(s)-1
					got := Tag(s, api.Token{Kind: kind, From: from, To: to})
					if whole && got != want || !whole && got != 0 {
						t.Fatalf("Tag(%q) of kind %d from %d to %d = %d", s, kind, from, to, got)
					}
				}
			}
		}
	}
	for _, s := range []string{"", "<>", "</>", "<Noinclude>", "</NOINCLUDE>", "<nowiki>", "</nowiki>", "noinclude", "<noinclude >"} {
		for kind := range 20 {
			if got := Tag(s, api.Token{Kind: kind, To: len(s)}); got != 0 {
				t.Errorf("Tag(%q) of kind %d = %d, want 0", s, kind, got)
			}
		}
	}
}
