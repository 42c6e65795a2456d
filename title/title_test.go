package title

import (
	"math"
	"slices"
	"strings"
	"testing"

	"transclude/api"
	"transclude/sample"
)

func mustBeValid(t *testing.T, x api.Title, want bool) {
	t.Helper()
	if got := Valid(x); got != want {
		t.Errorf("Valid(%+v) = %v, want %v", x, got, want)
	}
}

func mustParse(t *testing.T, s string, want api.Title) {
	t.Helper()
	got, err := Parse(s)
	if got != want || err != api.OK {
		t.Errorf("Parse(%q) = %+v, %v, want %+v", s, got, err, want)
	}
}

func mustFail(t *testing.T, s string, want api.Errno) {
	t.Helper()
	got, err := Parse(s)
	if got != (api.Title{}) || err != want {
		t.Errorf("Parse(%q) = %+v, %v, want %v", s, got, err, want)
	}
}

// pieces are what sample.Texts makes titles of.
func pieces() []string {
	return []string{" ", "_", ":", "/", "a", "B", "#", "\xff", "talk", "User"}
}

// P1.1

func TestValidSpace(t *testing.T) {
	for space := range api.Spaces {
		mustBeValid(t, api.Title{Space: space, Name: "A"}, true)
	}
	for _, space := range []int{-1, 6, 7, math.MinInt, math.MaxInt} {
		mustBeValid(t, api.Title{Space: space, Name: "A"}, false)
	}
}

func TestValidLength(t *testing.T) {
	mustBeValid(t, api.Title{}, false)
	mustBeValid(t, api.Title{Name: "A"}, true)
	mustBeValid(t, api.Title{Name: strings.Repeat("A", 100)}, true)
	mustBeValid(t, api.Title{Name: strings.Repeat("A", 101)}, false)
	mustBeValid(t, api.Title{Name: strings.Repeat("\u00e9", 50)}, true)
	mustBeValid(t, api.Title{Name: strings.Repeat("\u00e9", 51)}, false)
	mustBeValid(t, api.Title{Space: api.Template, Name: strings.Repeat("A", 100)}, true)
	mustBeValid(t, api.Title{Name: strings.Repeat("/", 1<<20)}, false)
}

func TestValidBytes(t *testing.T) {
	for c := range 256 {
		want := c >= 32 && c != 127 && !strings.Contains("<>[]{}|#_", string([]byte{byte(c)}))
		mustBeValid(t, api.Title{Space: api.User, Name: "A" + string([]byte{byte(c)}) + "B"}, want)
	}
}

func TestValidFirstByte(t *testing.T) {
	for c := range 256 {
		name := string([]byte{byte(c)}) + "A"
		want := c > 32 && c != 127 && !strings.Contains("<>[]{}|#_:/", name[:1]) && (c < 'a' || c > 'z')
		mustBeValid(t, api.Title{Name: name}, want)
		mustBeValid(t, api.Title{Space: api.Project, Name: name}, want)
	}
	mustBeValid(t, api.Title{Name: "A/b"}, true)
	mustBeValid(t, api.Title{Name: "A/:b"}, true)
}

func TestValidBlanksAndParts(t *testing.T) {
	for _, name := range []string{"A b c", "A/b/c", "A b/c d", "A:", "A: b", "A :b"} {
		mustBeValid(t, api.Title{Name: name}, true)
	}
	for _, name := range []string{" ", " A", "A ", "A  b", "A   b", "/", "/A", "A/", "A//b", "A /b", "A/ b", "A/ /b"} {
		mustBeValid(t, api.Title{Name: name}, false)
		mustBeValid(t, api.Title{Space: api.Talk, Name: name}, false)
	}
}

func TestValidPrefix(t *testing.T) {
	for _, name := range []string{"Talk:x", "User:x", "Template:x", "Category:x", "Project:x", "TALK:x", "TaLk :x", "User:", "Project: x"} {
		mustBeValid(t, api.Title{Name: name}, false)
		mustBeValid(t, api.Title{Space: api.Talk, Name: name}, true)
	}
	// The last two are equal to Talk and User by the case folding of Unicode only.
	for _, name := range []string{"Main:x", "Talk", "Talks:x", "Tal:x", "A:Talk:x", "Talk/a:x", "Tal\u212a:x", "U\u017fer:x"} {
		mustBeValid(t, api.Title{Name: name}, true)
	}
}

// P1.2

func TestParseSteps(t *testing.T) {
	for _, x := range []struct {
		s     string
		space int
		name  string
	}{
		{"template : info_box", api.Template, "Info box"},
		{":talk: a / b", api.Talk, "A/b"},
		{"A", api.Main, "A"},
		{"_a_", api.Main, "A"},
		{" _ a _ _ b _ ", api.Main, "A b"},
		{"__:__a", api.Main, "A"},
		{" : talk : b", api.Talk, "B"},
		{"Talk:Talk:x", api.Talk, "Talk:x"},
		{"talk:talk:x", api.Talk, "Talk:x"},
		{"cATEGORY:x", api.Category, "X"},
		{"project:policy", api.Project, "Policy"},
		{"user_:ann", api.User, "Ann"},
		{"main:x", api.Main, "Main:x"},
		{"a:b", api.Main, "A:b"},
		{"a : b", api.Main, "A : b"},
		{"talk", api.Main, "Talk"},
		{":talk", api.Main, "Talk"},
		{"a/talk:x", api.Main, "A/talk:x"},
		{"talk /:x", api.Main, "Talk/:x"},
		{"a _ / _ b/ c /d", api.Main, "A/b/c/d"},
		{"a/b c", api.Main, "A/b c"},
		{"\u00e9t\u00e9", api.Main, "\u00e9t\u00e9"},
		{"\xff_\x80", api.Main, "\xff \x80"},
		{"\u00a0a", api.Main, "\u00a0a"},
		{"tal\u212a:x", api.Main, "Tal\u212a:x"},
		{"z", api.Main, "Z"},
		{"user:1/a", api.User, "1/a"},
	} {
		mustParse(t, x.s, api.Title{Space: x.space, Name: x.name})
	}
}

func TestParseErrors(t *testing.T) {
	for _, s := range []string{"", " ", "___", ":", "::", "::a", ": : a", "talk:", "talk : ", "user::x", "user : : x",
		"A#b", "a<b", "a>b", "a[b", "a]b", "a{b", "a}b", "a|b", "a\x00b", "a\nb", "\ta", "a\x1f", "a\x7f",
		"/", "/a", "a/", "a//b", "a / / b", "talk:/a", "talk: / a"} {
		mustFail(t, s, api.ErrSyntax)
	}
}

func TestParseLength(t *testing.T) {
	hundred := strings.Repeat("A", 100)
	mustParse(t, hundred, api.Title{Name: hundred})
	mustParse(t, "  template : "+hundred+"___", api.Title{Space: api.Template, Name: hundred})
	mustParse(t, strings.Repeat("A / ", 49)+"AA", api.Title{Name: strings.Repeat("A/", 49) + "AA"})
	mustFail(t, hundred+"A", api.ErrTooLarge)
	mustFail(t, "talk:"+hundred+"A", api.ErrTooLarge)
	mustFail(t, hundred+"#", api.ErrTooLarge)
	mustFail(t, strings.Repeat("#", 100), api.ErrSyntax)
	mustFail(t, strings.Repeat("/", 1<<20), api.ErrTooLarge)
}

// removeAll removes the byte at each index where drop says so, one by one, until there is none.
func removeAll(s string, drop func(s string, i int) bool) string {
	for i := 0; i < len(s); i++ {
		if drop(s, i) {
			s = s[:i] + s[i+1:]
			i = -1
		}
	}
	return s
}

// plainParse follows the steps of P1.2 by their words.
func plainParse(s string) (api.Title, api.Errno) {
	s = strings.ReplaceAll(s, "_", " ")
	s = removeAll(s, func(s string, i int) bool {
		return s[i] == ' ' && (i == 0 || i == len(s)-1 || s[i-1] == ' ')
	})
	if strings.HasPrefix(s, ":") {
		s = strings.TrimPrefix(s[1:], " ")
	}
	var t api.Title
	if i := strings.Index(s, ":"); i >= 0 {
		names := []string{"-", "talk", "user", "template", "category", "project"}
		t.Space = max(0, slices.Index(names, strings.ToLower(strings.TrimSuffix(s[:i], " "))))
		if t.Space > 0 {
			s = strings.TrimPrefix(s[i+1:], " ")
		}
	}
	s = removeAll(s, func(s string, i int) bool {
		return s[i] == ' ' && (i > 0 && s[i-1] == '/' || i+1 < len(s) && s[i+1] == '/')
	})
	if s != "" && s[0] >= 'a' && s[0] <= 'z' {
		s = strings.ToUpper(s[:1]) + s[1:]
	}
	t.Name = s
	if len(s) > 100 {
		return api.Title{}, api.ErrTooLarge
	}
	if !Valid(t) {
		return api.Title{}, api.ErrSyntax
	}
	return t, api.OK
}

func TestParseAllShortTexts(t *testing.T) {
	sample.Texts(5, pieces(), func(s string) {
		got, err := Parse(s)
		want, wantErr := plainParse(s)
		if got != want || err != wantErr {
			t.Fatalf("Parse(%q) = %+v, %v, want %+v, %v", s, got, err, want, wantErr)
		}
	})
}

// P1.3

func TestFormat(t *testing.T) {
	for space, want := range []string{"A b", "Talk:A b", "User:A b", "Template:A b", "Category:A b", "Project:A b"} {
		if got := Format(api.Title{Space: space, Name: "A b"}); got != want {
			t.Errorf("Format in space %d = %q, want %q", space, got, want)
		}
	}
	for _, x := range []api.Title{{}, {Space: 6, Name: "A"}, {Space: -1, Name: "A"}, {Name: "a"}, {Name: "Talk:A"}, {Space: api.User, Name: "A_b"}} {
		if got := Format(x); got != "" {
			t.Errorf("Format(%+v) = %q, want the empty string", x, got)
		}
	}
}

func TestParseOfFormat(t *testing.T) {
	count := 0
	sample.Texts(4, pieces(), func(name string) {
		for space := range api.Spaces {
			x := api.Title{Space: space, Name: name}
			if !Valid(x) {
				continue
			}
			count++
			if got, err := Parse(Format(x)); got != x || err != api.OK {
				t.Fatalf("Parse(Format(%+v)) = %+v, %v", x, got, err)
			}
		}
	})
	if count < 1000 {
		t.Errorf("only %d titles were valid", count)
	}
}

// P1.4

func TestCompare(t *testing.T) {
	ordered := []api.Title{
		{Space: math.MinInt, Name: "Z"}, {Space: -1}, {}, {Name: "A"}, {Name: "A b"}, {Name: "A/b"}, {Name: "B"}, {Name: "b"}, {Name: "\xff"},
		{Space: api.Talk}, {Space: api.Talk, Name: "A"}, {Space: api.Project, Name: "A"}, {Space: 6, Name: "A"}, {Space: math.MaxInt, Name: "A"},
	}
	for i, a := range ordered {
		for j, b := range ordered {
			want := 0
			if i < j {
				want = -1
			} else if i > j {
				want = 1
			}
			if got := Compare(a, b); got != want {
				t.Errorf("Compare(%+v, %+v) = %d, want %d", a, b, got, want)
			}
		}
	}
}

// P1.5

func TestAncestors(t *testing.T) {
	for _, x := range []struct {
		title api.Title
		want  []string
	}{
		{api.Title{Name: "A/B/C"}, []string{"A", "A/B"}},
		{api.Title{Space: api.User, Name: "Ann/my notes/b: c"}, []string{"Ann", "Ann/my notes"}},
		{api.Title{Name: "A"}, nil},
		{api.Title{Name: "a/B"}, nil},
		{api.Title{Name: "A//B"}, nil},
		{api.Title{Name: "A/B/"}, nil},
		{api.Title{Space: 6, Name: "A/B"}, nil},
		{api.Title{Space: -1, Name: "A/B"}, nil},
		{api.Title{}, nil},
	} {
		var want []api.Title
		for _, name := range x.want {
			want = append(want, api.Title{Space: x.title.Space, Name: name})
		}
		if got := Ancestors(x.title); !slices.Equal(got, want) {
			t.Errorf("Ancestors(%+v) = %+v, want %+v", x.title, got, want)
		}
	}
}

func TestAncestorsAreValid(t *testing.T) {
	sample.Texts(4, pieces(), func(s string) {
		x := api.Title{Name: "A/" + s + "/b"}
		above := Ancestors(x)
		if Valid(x) && len(above) != strings.Count(x.Name, "/") {
			t.Fatalf("Ancestors(%+v) = %+v", x, above)
		}
		for _, a := range above {
			mustBeValid(t, a, true)
		}
	})
}

// P1.6

func TestResolve(t *testing.T) {
	ann := api.Title{Space: api.User, Name: "Ann"}
	page := api.Title{Name: "Page"}
	for _, x := range []struct {
		base api.Title
		s    string
		want api.Title
		err  api.Errno
	}{
		{ann, "/notes", api.Title{Space: api.User, Name: "Ann/notes"}, api.OK},
		{ann, "_ _/_notes / b_", api.Title{Space: api.User, Name: "Ann/notes/b"}, api.OK},
		{page, "/talk:x", api.Title{Name: "Page/talk:x"}, api.OK},
		{api.Title{Name: "Talk"}, "/:x", api.Title{Name: "Talk/:x"}, api.OK},
		{ann, "notes", api.Title{Name: "Notes"}, api.OK},
		{ann, "talk:/x", api.Title{}, api.ErrSyntax},
		{ann, ":/x", api.Title{}, api.ErrSyntax},
		{ann, "\t/x", api.Title{}, api.ErrSyntax},
		{ann, "template: a/b", api.Title{Space: api.Template, Name: "A/b"}, api.OK},
		{ann, "/", api.Title{}, api.ErrSyntax},
		{ann, "//x", api.Title{}, api.ErrSyntax},
		{ann, "/a#b", api.Title{}, api.ErrSyntax},
		{ann, "", api.Title{}, api.ErrSyntax},
		{ann, " _", api.Title{}, api.ErrSyntax},
		{ann, "/" + strings.Repeat("x", 96), api.Title{Space: api.User, Name: "Ann/" + strings.Repeat("x", 96)}, api.OK},
		{ann, "/" + strings.Repeat("x", 97), api.Title{}, api.ErrTooLarge},
		{api.Title{Name: "a"}, "/x", api.Title{}, api.ErrSyntax},
		{api.Title{Space: 9, Name: "A"}, "/x", api.Title{}, api.ErrSyntax},
		{api.Title{Name: "a"}, "/" + strings.Repeat("x", 100), api.Title{}, api.ErrTooLarge},
		{api.Title{Name: "a"}, "x", api.Title{Name: "X"}, api.OK},
	} {
		got, err := Resolve(x.base, x.s)
		if got != x.want || err != x.err {
			t.Errorf("Resolve(%+v, %q) = %+v, %v, want %+v, %v", x.base, x.s, got, err, x.want, x.err)
		}
	}
}
