package policy

import (
	"fmt"
	"math"
	"math/rand"
	"regexp"
	"slices"
	"strings"
	"testing"

	"transclude/api"
	"transclude/sample"
	"transclude/title"
)

// The limits, written anew so that the tests fix their values.
const (
	longestName    = 30
	longestSection = 100
	longestText    = 8192
	mostGroups     = 24
	mostMembers    = 24
	mostRules      = 64
)

// page returns a title of the namespace Main.
func page(name string) api.Title { return api.Title{Name: name} }

func group(name string, members ...string) api.Group {
	return api.Group{Name: name, Members: members}
}

func everything() api.Scope { return api.Scope{Kind: api.ScopeAll} }

func inSpace(space int) api.Scope {
	return api.Scope{Kind: api.ScopeSpace, Title: api.Title{Space: space}}
}

func below(t api.Title) api.Scope { return api.Scope{Kind: api.ScopeTree, Title: t} }

func allow(right int, group string, scope api.Scope) api.Rule {
	return api.Rule{Allow: true, Right: right, Group: group, Scope: scope}
}

func deny(right int, group string, scope api.Scope) api.Rule {
	return api.Rule{Right: right, Group: group, Scope: scope}
}

func guard(group string, t api.Title, section string) api.Guard {
	return api.Guard{Group: group, Title: t, Section: section}
}

func strict(group string, t api.Title, section string) api.Guard {
	return api.Guard{Strict: true, Group: group, Title: t, Section: section}
}

func groups(l ...api.Group) api.Policy { return api.Policy{Groups: l} }

func rules(l ...api.Rule) api.Policy { return api.Policy{Rules: l} }

func guards(l ...api.Guard) api.Policy { return api.Policy{Guards: l} }

// whole is the policy of example 1.
func whole() api.Policy {
	return api.Policy{
		Groups: []api.Group{group("staff", "ann", "bob")},
		Rules:  []api.Rule{allow(api.RightRead, "all", everything()), deny(api.RightRead, "all", below(api.Title{Space: api.User, Name: "Ann/diary"}))},
		Guards: []api.Guard{guard("staff", page("Main Page"), "Rules")},
	}
}

// copyOf returns a policy that shares no memory with p.
func copyOf(p api.Policy) api.Policy {
	made := api.Policy{Rules: slices.Clone(p.Rules), Guards: slices.Clone(p.Guards)}
	for _, g := range p.Groups {
		made.Groups = append(made.Groups, group(g.Name, slices.Clone(g.Members)...))
	}
	return made
}

func equal(a, b api.Policy) bool {
	sameGroup := func(g, h api.Group) bool { return g.Name == h.Name && slices.Equal(g.Members, h.Members) }
	return slices.EqualFunc(a.Groups, b.Groups, sameGroup) && slices.Equal(a.Rules, b.Rules) && slices.Equal(a.Guards, b.Guards)
}

func mustBeName(t *testing.T, s string, want bool) {
	t.Helper()
	if got := IsName(s); got != want {
		t.Fatalf("IsName(%.99q) = %v, want %v", s, got, want)
	}
}

func mustRead(t *testing.T, s string, want api.Policy, wantLine int, wantErr api.Errno) {
	t.Helper()
	got, line, err := Parse(s)
	if !equal(got, want) || line != wantLine || err != wantErr {
		t.Fatalf("Parse(%.999q) = %.999q, %d, %v, want %.999q, %d, %v", s, fmt.Sprint(got), line, err, fmt.Sprint(want), wantLine, wantErr)
	}
}

func mustParse(t *testing.T, s string, want api.Policy) {
	t.Helper()
	mustRead(t, s, want, 0, api.OK)
}

func mustFail(t *testing.T, s string, line int, err api.Errno) {
	t.Helper()
	mustRead(t, s, api.Policy{}, line, err)
}

// mustNotState checks that a line is no statement, alone and as the third line of a text.
func mustNotState(t *testing.T, lines ...string) {
	t.Helper()
	for _, line := range lines {
		mustFail(t, line, 1, api.ErrSyntax)
		mustFail(t, line+"\n", 1, api.ErrSyntax)
		mustFail(t, "#\ngroup a\n"+line+"\nx", 3, api.ErrSyntax)
	}
}

// mustCheck checks what Validate returns, and that it leaves the policy alone.
func mustCheck(t *testing.T, p api.Policy, want api.Errno) {
	t.Helper()
	before := copyOf(p)
	if got := Validate(p); got != want {
		t.Fatalf("Validate(%.999q) = %v, want %v", fmt.Sprint(p), got, want)
	}
	if !equal(p, before) {
		t.Fatalf("Validate(%.999q) has changed its argument to %.999q", fmt.Sprint(before), fmt.Sprint(p))
	}
}

func mustWrite(t *testing.T, p api.Policy, want string, wantErr api.Errno) {
	t.Helper()
	before := copyOf(p)
	if got, err := Format(p); got != want || err != wantErr {
		t.Fatalf("Format(%.999q) = %.999q, %v, want %.999q, %v", fmt.Sprint(p), got, err, want, wantErr)
	}
	if !equal(p, before) {
		t.Fatalf("Format(%.999q) has changed its argument to %.999q", fmt.Sprint(before), fmt.Sprint(p))
	}
}

// mustFormat checks the text of a valid policy, and that Parse reads it.
func mustFormat(t *testing.T, p api.Policy, want string) {
	t.Helper()
	mustCheck(t, p, api.OK)
	mustWrite(t, p, want, api.OK)
	mustParse(t, want, p)
}

// mustRefuse checks the error that Validate and Format return.
func mustRefuse(t *testing.T, p api.Policy, err api.Errno) {
	t.Helper()
	mustCheck(t, p, err)
	mustWrite(t, p, "", err)
}

// eachByte returns the texts of one byte.
func eachByte() []string {
	var l []string
	for c := range 256 {
		l = append(l, string([]byte{byte(c)}))
	}
	return l
}

// otherBlanks are texts that look blank, but that neither separate words nor lines.
func otherBlanks() []string {
	return []string{"\r", "\v", "\f", "\x00", "\x85", "\xa0", "\u0085", "\u00a0", "\u2003", "\u2028", "\u3000", "\ufeff"}
}

// Reading the chapter by its words.

func rightWords() []string { return []string{"read", "edit", "move", "delete", "review"} }

func spaceWords() []string {
	return []string{"<Main>", "<Talk>", "<User>", "<Template>", "<Category>", "<Project>"}
}

var (
	nameForm    = regexp.MustCompile(`\A[a-z][a-z0-9_-]{0,29}\z`)
	memberForm  = regexp.MustCompile(`\A@?[a-z][a-z0-9_-]{0,29}\z`)
	sectionForm = regexp.MustCompile(`\A([^\n|\t ]([^\n|]*[^\n|\t ])?)?\z`)
	noneForm    = regexp.MustCompile(`\A[\t ]*(#.*)?\z`)
	groupForm   = regexp.MustCompile(`\A[\t ]*group[\t ]+([^\t ]+)((?:[\t ]+[^\t ]+)*)[\t ]*\z`)
	ruleForm    = regexp.MustCompile(`\A[\t ]*(allow|deny)[\t ]+(read|edit|move|delete|review)[\t ]+([^\t ]+)[\t ]+(.*?)[\t ]*\z`)
	guardForm   = regexp.MustCompile(`\A[\t ]*(guard|strict)[\t ]+([^\t ]+)[\t ]+([^|]*?)[\t ]*(\|[\t ]*(.*?)[\t ]*)?\z`)
)

// found is an error of a list of all possible ones, and whether it applies.
type found struct {
	applies bool
	err     api.Errno
}

// wordsErrors returns all errors of a policy, in the order of the chapter.
func wordsErrors(p api.Policy) []found {
	l := []found{{len(p.Groups) > mostGroups || len(p.Rules) > mostRules || len(p.Guards) > mostRules, api.ErrTooLarge}}
	exists := map[string]bool{"all": true, "users": true}
	for _, g := range p.Groups {
		exists[g.Name] = true
	}
	before := map[string]bool{"all": true, "users": true}
	for _, g := range p.Groups {
		l = append(l, found{!nameForm.MatchString(g.Name), api.ErrSyntax}, found{before[g.Name], api.ErrDuplicate}, found{len(g.Members) > mostMembers, api.ErrTooLarge})
		for _, m := range g.Members {
			l = append(l, found{!memberForm.MatchString(m), api.ErrSyntax}, found{strings.HasPrefix(m, "@") && !exists[m[1:]], api.ErrUnknown})
		}
		before[g.Name] = true
	}
	for _, r := range p.Rules {
		fits := r.Scope == everything() || slices.ContainsFunc([]int{0, 1, 2, 3, 4, 5}, func(space int) bool { return r.Scope == inSpace(space) })
		fits = fits || r.Scope.Kind == api.ScopeTree && title.Valid(r.Scope.Title)
		l = append(l, found{!slices.Contains([]int{1, 2, 3, 4, 5}, r.Right), api.ErrRange}, found{!exists[r.Group], api.ErrUnknown}, found{!fits, api.ErrForm})
	}
	for _, g := range p.Guards {
		fits := title.Valid(g.Title) && len(g.Section) <= longestSection && sectionForm.MatchString(g.Section)
		l = append(l, found{!exists[g.Group], api.ErrUnknown}, found{!fits, api.ErrForm})
	}
	return l
}

// wordsValidate returns the first error of a policy.
func wordsValidate(p api.Policy) api.Errno {
	for _, f := range wordsErrors(p) {
		if f.applies {
			return f.err
		}
	}
	return api.OK
}

// wordsScope returns the scope that a text denotes.
func wordsScope(s string) (api.Scope, bool) {
	if s == "<all>" {
		return everything(), true
	}
	if space := slices.Index(spaceWords(), s); space >= 0 {
		return inSpace(space), true
	}
	of, err := title.Parse(s)
	return below(of), err == api.OK
}

// wordsLine adds the statement of a line to a policy, and reports whether the line may stand in a policy text.
func wordsLine(p *api.Policy, line string) bool {
	if noneForm.MatchString(line) {
		return true
	}
	if m := groupForm.FindStringSubmatch(line); m != nil {
		members := strings.FieldsFunc(m[2], func(c rune) bool { return c == '\t' || c == ' ' })
		p.Groups = append(p.Groups, group(m[1], members...))
		return true
	}
	if m := ruleForm.FindStringSubmatch(line); m != nil {
		scope, ok := wordsScope(m[4])
		p.Rules = append(p.Rules, api.Rule{Allow: m[1] == "allow", Right: 1 + slices.Index(rightWords(), m[2]), Group: m[3], Scope: scope})
		return ok
	}
	if m := guardForm.FindStringSubmatch(line); m != nil {
		of, err := title.Parse(m[3])
		p.Guards = append(p.Guards, api.Guard{Strict: m[1] == "strict", Group: m[2], Title: of, Section: m[5]})
		return err == api.OK && (m[4] == "" || m[5] != "")
	}
	return false
}

// wordsParse returns what Parse returns.
func wordsParse(s string) (api.Policy, int, api.Errno) {
	if len(s) > longestText {
		return api.Policy{}, 0, api.ErrTooLarge
	}
	var p api.Policy
	for i, line := range strings.Split(s, "\n") {
		if !wordsLine(&p, line) {
			return api.Policy{}, i + 1, api.ErrSyntax
		}
	}
	if err := wordsValidate(p); err != api.OK {
		return api.Policy{}, 0, err
	}
	return p, 0, api.OK
}

// wordsFormat returns what Format returns.
func wordsFormat(p api.Policy) (string, api.Errno) {
	if err := wordsValidate(p); err != api.OK {
		return "", err
	}
	var lines []string
	for _, g := range p.Groups {
		lines = append(lines, strings.Join(append([]string{"group", g.Name}, g.Members...), " ")+"\n")
	}
	for _, r := range p.Rules {
		scope := map[int]string{api.ScopeAll: "<all>", api.ScopeSpace: spaceWords()[r.Scope.Title.Space], api.ScopeTree: title.Format(r.Scope.Title)}[r.Scope.Kind]
		lines = append(lines, fmt.Sprintf("%s %s %s %s\n", map[bool]string{true: "allow", false: "deny"}[r.Allow], rightWords()[r.Right-1], r.Group, scope))
	}
	for _, g := range p.Guards {
		line := fmt.Sprintf("%s %s %s | %s", map[bool]string{true: "strict", false: "guard"}[g.Strict], g.Group, title.Format(g.Title), g.Section)
		lines = append(lines, strings.TrimSuffix(line, " | ")+"\n")
	}
	text := strings.Join(lines, "")
	if len(text) > longestText {
		return "", api.ErrTooLarge
	}
	return text, api.OK
}

// mustParseAsWords checks Parse, and Format of what it returns.
func mustParseAsWords(t *testing.T, s string) {
	t.Helper()
	p, line, err := wordsParse(s)
	mustRead(t, s, p, line, err)
	if err == api.OK {
		mustTreatAsWords(t, p)
	}
}

// mustTreatAsWords checks Validate and Format, and Parse of what Format writes.
func mustTreatAsWords(t *testing.T, p api.Policy) {
	t.Helper()
	mustCheck(t, p, wordsValidate(p))
	text, err := wordsFormat(p)
	mustWrite(t, p, text, err)
	if err == api.OK {
		mustParse(t, text, p)
	}
}

// The examples

func TestExamples(t *testing.T) {
	text := "group staff ann bob\nallow read all <all>\ndeny read all User:Ann/diary\nguard staff Main Page | Rules"
	mustParse(t, text, whole())
	mustFormat(t, whole(), text+"\n")
	mustFail(t, "allow read nobody <all>", 0, api.ErrUnknown)
	mustFail(t, "allow read all", 1, api.ErrSyntax)
}

// P12.1

func TestIsName(t *testing.T) {
	for _, s := range []string{"a", "z", "ann", "a1", "a-", "a_", "a-1_b", "z9", "all", "users", "a--__00"} {
		mustBeName(t, s, true)
	}
	for _, s := range []string{"", "A", "1", "-", "_", "@", "@a", "Ann", "aNn", "anN", "1a", "-a", "_a", "a b", " a", "a ", "a\n", "a@", "a.b", "a/b", "\u00e9", "a\u00e9", "a\xff", "\xffa", "a\x00"} {
		mustBeName(t, s, false)
	}
}

func TestIsNameEachByte(t *testing.T) {
	for _, b := range eachByte() {
		first := strings.Contains("abcdefghijklmnopqrstuvwxyz", b)
		later := first || strings.Contains("0123456789-_", b)
		mustBeName(t, b, first)
		mustBeName(t, b+"a", first)
		for place := 1; place < longestName; place++ {
			start := strings.Repeat("m", place)
			mustBeName(t, start+b, later)
			mustBeName(t, start+b+strings.Repeat("m", longestName-place-1), later)
		}
	}
}

func TestIsNameLength(t *testing.T) {
	for _, s := range []string{"a", "m-", "z0_"} {
		l := strings.Repeat(s, 100)
		for n := 1; n <= longestName; n++ {
			mustBeName(t, l[:n], true)
		}
		for n := longestName + 1; n < 2*longestName; n++ {
			mustBeName(t, l[:n], false)
		}
		mustBeName(t, strings.Repeat(s, 1<<20), false)
	}
}

func TestIsNameAllShortTexts(t *testing.T) {
	sample.Texts(4, []string{"a", "z", "0", "9", "-", "_", "@", "A", " ", "`", "{", "/", ":", "\xff"}, func(s string) {
		mustBeName(t, s, nameForm.MatchString(s))
	})
}

// P12.2

func TestValidate(t *testing.T) {
	mustCheck(t, api.Policy{}, api.OK)
	mustCheck(t, api.Policy{Groups: []api.Group{}, Rules: []api.Rule{}, Guards: []api.Guard{}}, api.OK)
	mustCheck(t, whole(), api.OK)
}

// named returns n groups with different names.
func named(n int) []api.Group {
	var l []api.Group
	for i := range n {
		l = append(l, group(fmt.Sprint("g", i)))
	}
	return l
}

func TestValidateSizes(t *testing.T) {
	r, g := allow(api.RightRead, "all", everything()), guard("all", page("A"), "")
	full := api.Policy{Groups: named(mostGroups), Rules: slices.Repeat([]api.Rule{r}, mostRules), Guards: slices.Repeat([]api.Guard{g}, mostRules)}
	mustCheck(t, full, api.OK)
	mustRefuse(t, api.Policy{Groups: named(mostGroups + 1), Rules: full.Rules, Guards: full.Guards}, api.ErrTooLarge)
	mustRefuse(t, api.Policy{Groups: full.Groups, Rules: append(full.Rules, r), Guards: full.Guards}, api.ErrTooLarge)
	mustRefuse(t, api.Policy{Groups: full.Groups, Rules: full.Rules, Guards: append(full.Guards, g)}, api.ErrTooLarge)
	mustCheck(t, groups(named(mostGroups)...), api.OK)
	mustCheck(t, rules(full.Rules...), api.OK)
	mustCheck(t, guards(full.Guards...), api.OK)
	mustRefuse(t, groups(named(mostGroups+1)...), api.ErrTooLarge)
	mustRefuse(t, rules(append(full.Rules, r)...), api.ErrTooLarge)
	mustRefuse(t, guards(append(full.Guards, g)...), api.ErrTooLarge)
	mustRefuse(t, groups(named(1000)...), api.ErrTooLarge)
}

// The sizes of all lists come before the errors of their elements.
func TestValidateSizesFirst(t *testing.T) {
	for _, p := range []api.Policy{
		{Groups: make([]api.Group, mostGroups+1)},
		{Groups: make([]api.Group, 1), Rules: make([]api.Rule, mostRules+1)},
		{Groups: make([]api.Group, 1), Rules: make([]api.Rule, 1), Guards: make([]api.Guard, mostRules+1)},
		{Rules: make([]api.Rule, 1), Guards: make([]api.Guard, mostRules+1)},
		{Guards: make([]api.Guard, mostRules+1)},
	} {
		mustRefuse(t, p, api.ErrTooLarge)
	}
	mustRefuse(t, api.Policy{Groups: make([]api.Group, mostGroups)}, api.ErrSyntax)
	mustRefuse(t, api.Policy{Rules: make([]api.Rule, mostRules)}, api.ErrRange)
	mustRefuse(t, api.Policy{Guards: make([]api.Guard, mostRules)}, api.ErrUnknown)
}

func TestValidateGroupNames(t *testing.T) {
	for _, name := range []string{"a", "al", "alls", "user", "userss", "a-1_b", strings.Repeat("a", longestName)} {
		mustCheck(t, groups(group(name)), api.OK)
	}
	for _, name := range []string{"", "A", "All", "@a", "a b", "1", "a\xff", strings.Repeat("a", longestName+1)} {
		mustRefuse(t, groups(group(name)), api.ErrSyntax)
		mustRefuse(t, groups(group("b"), group(name)), api.ErrSyntax)
		mustRefuse(t, groups(group(name), group(name)), api.ErrSyntax)
	}
}

func TestValidateDuplicates(t *testing.T) {
	mustRefuse(t, groups(group("all")), api.ErrDuplicate)
	mustRefuse(t, groups(group("users")), api.ErrDuplicate)
	mustRefuse(t, groups(group("a"), group("all", "b")), api.ErrDuplicate)
	mustRefuse(t, groups(group("a"), group("a")), api.ErrDuplicate)
	mustRefuse(t, groups(group("a", "b"), group("b"), group("a", "c")), api.ErrDuplicate)
	mustCheck(t, groups(group("a", "b"), group("b"), group("ab")), api.OK)
	l := named(mostGroups)
	l[mostGroups-1].Name = "g0"
	mustRefuse(t, groups(l...), api.ErrDuplicate)
}

func TestValidateMembers(t *testing.T) {
	long := strings.Repeat("m", longestName)
	for _, member := range []string{"b", "a-1", "a", "all", "users", "@a", "@all", "@users", "@late", long, "@" + long} {
		mustCheck(t, groups(group("a", member), group("late"), group(long)), api.OK)
		mustCheck(t, groups(group("a", "x", member, member), group("late"), group(long)), api.OK)
	}
	for _, member := range []string{"", "@", "B", "@B", "@@a", "a@", "@ a", " a", "a b", "1", "@1", "-", "a\xff", "@\xff", long + "m", "@" + long + "m", "<all>", "#a", "|"} {
		mustRefuse(t, groups(group("a", member)), api.ErrSyntax)
		mustRefuse(t, groups(group("a", "x", "@all", member), group("late")), api.ErrSyntax)
	}
	for _, member := range []string{"@b", "@al", "@alls", "@user", "@x", "@" + long} {
		mustRefuse(t, groups(group("a", member)), api.ErrUnknown)
		mustRefuse(t, groups(group("a", "x", member, "@all"), group("late")), api.ErrUnknown)
	}
	// A group that is declared under a name that is none is not known by it.
	mustRefuse(t, groups(group("a", "@B"), group("B")), api.ErrSyntax)
	mustRefuse(t, groups(group("a", "@"), group("")), api.ErrSyntax)
}

func TestValidateManyMembers(t *testing.T) {
	for _, member := range []string{"b", "@a", "@all"} {
		l := slices.Repeat([]string{member}, mostMembers)
		mustCheck(t, groups(group("a", l...)), api.OK)
		mustCheck(t, groups(group("a", l...), group("c", l...)), api.OK)
		mustRefuse(t, groups(group("a", append(l, member)...)), api.ErrTooLarge)
		mustRefuse(t, groups(group("c"), group("a", append(l, "B")...)), api.ErrTooLarge)
	}
	mustRefuse(t, groups(group("a", make([]string, mostMembers+1)...)), api.ErrTooLarge)
	mustRefuse(t, groups(group("a", make([]string, mostMembers)...)), api.ErrSyntax)
}

func TestValidateRights(t *testing.T) {
	for right := 1; right <= 5; right++ {
		mustCheck(t, rules(allow(right, "all", everything())), api.OK)
		mustCheck(t, rules(deny(right, "all", everything())), api.OK)
	}
	for _, right := range []int{0, -1, 6, 7, math.MinInt, math.MaxInt} {
		mustRefuse(t, rules(allow(right, "all", everything())), api.ErrRange)
		mustRefuse(t, rules(deny(1, "all", everything()), deny(right, "none", api.Scope{})), api.ErrRange)
	}
}

func TestValidateGroupsOfRulesAndGuards(t *testing.T) {
	for _, name := range []string{"all", "users", "a", "b"} {
		mustCheck(t, api.Policy{Groups: []api.Group{group("a"), group("b")}, Rules: []api.Rule{allow(1, name, everything())}}, api.OK)
		mustCheck(t, api.Policy{Groups: []api.Group{group("a"), group("b")}, Guards: []api.Guard{guard(name, page("A"), "")}}, api.OK)
	}
	for _, name := range []string{"", "c", "A", "@a", "@all", "al", "All", "user", "ann", "a ", "\xff", strings.Repeat("a", 1<<20)} {
		mustRefuse(t, api.Policy{Groups: []api.Group{group("a", "ann")}, Rules: []api.Rule{allow(1, name, everything())}}, api.ErrUnknown)
		mustRefuse(t, api.Policy{Groups: []api.Group{group("a", "ann")}, Guards: []api.Guard{strict(name, page("A"), "")}}, api.ErrUnknown)
	}
}

func mustFit(t *testing.T, scope api.Scope, want bool) {
	t.Helper()
	if want {
		mustCheck(t, rules(allow(1, "all", scope)), api.OK)
		return
	}
	mustRefuse(t, rules(allow(1, "all", scope)), api.ErrForm)
	mustRefuse(t, rules(allow(1, "all", everything()), deny(5, "users", scope)), api.ErrForm)
}

func TestValidateScopes(t *testing.T) {
	for _, space := range []int{-1, 0, 1, 2, 3, 4, 5, 6, math.MinInt, math.MaxInt} {
		inside := space >= 0 && space <= 5
		for _, name := range []string{"", "A", "A/b", "a", "A|b", " ", "<all>", "\xff", strings.Repeat("A", 100), strings.Repeat("A", 101)} {
			of := api.Title{Space: space, Name: name}
			mustFit(t, api.Scope{Kind: api.ScopeAll, Title: of}, space == 0 && name == "")
			mustFit(t, api.Scope{Kind: api.ScopeSpace, Title: of}, inside && name == "")
			mustFit(t, api.Scope{Kind: api.ScopeTree, Title: of}, title.Valid(of))
			for _, kind := range []int{0, -1, 4, math.MinInt, math.MaxInt} {
				mustFit(t, api.Scope{Kind: kind, Title: of}, false)
			}
		}
	}
	mustFit(t, below(page("Talk:A")), false)
	mustFit(t, below(page("A//b")), false)
}

func TestValidateTitlesOfGuards(t *testing.T) {
	for _, of := range []api.Title{page("A"), page("A/b c"), {Space: api.Talk, Name: "Talk:x"}, {Space: api.Project, Name: strings.Repeat("\xff", 100)}} {
		mustCheck(t, guards(guard("all", of, "")), api.OK)
		mustCheck(t, guards(strict("users", of, "x")), api.OK)
	}
	for _, of := range []api.Title{{}, page("a"), page("A|b"), page("A "), page("Talk:x"), {Space: -1, Name: "A"}, {Space: 6, Name: "A"}, page(strings.Repeat("A", 101)), {Space: api.Talk}} {
		mustRefuse(t, guards(guard("all", of, "")), api.ErrForm)
		mustRefuse(t, guards(guard("all", page("A"), ""), strict("users", of, "x")), api.ErrForm)
	}
}

func TestValidateSections(t *testing.T) {
	long := strings.Repeat("s", longestSection)
	for _, section := range []string{"", "x", "x y", "x  y", "x\ty", "#", "<all>", "=", "\r", "\x00", "\xff", "\u00a0x", long, "\xff" + long[1:]} {
		mustCheck(t, guards(guard("all", page("A"), section)), api.OK)
		mustCheck(t, guards(strict("all", page("A"), section)), api.OK)
	}
	for _, section := range []string{" ", "\t", "\n", "|", " x", "x ", "\tx", "x\t", "x\ny", "\nx", "x\n", "x|y", "|x", "x|", long + "s", long[1:] + " ", strings.Repeat("\u00e9", 51), strings.Repeat("s", 1<<20)} {
		mustRefuse(t, guards(guard("all", page("A"), section)), api.ErrForm)
		mustRefuse(t, guards(guard("all", page("A"), ""), strict("users", page("B"), section)), api.ErrForm)
	}
	for _, b := range eachByte() {
		inside, end := api.OK, api.OK
		if b == "\n" || b == "|" {
			inside = api.ErrForm
		}
		if strings.Contains("\n|\t ", b) {
			end = api.ErrForm
		}
		mustCheck(t, guards(guard("all", page("A"), "x"+b+"y")), inside)
		mustCheck(t, guards(guard("all", page("A"), b+"x")), end)
		mustCheck(t, guards(guard("all", page("A"), "x"+b)), end)
		mustCheck(t, guards(guard("all", page("A"), b)), end)
	}
}

// Of two errors in one policy, the first one counts, wherever the second one is.
func TestValidateOrder(t *testing.T) {
	for _, p := range []struct {
		err    api.Errno
		groups []api.Group
	}{
		{api.ErrSyntax, []api.Group{group("A"), group("all")}},
		{api.ErrDuplicate, []api.Group{group("all"), group("A")}},
		{api.ErrDuplicate, []api.Group{group("all", make([]string, mostMembers+1)...)}},
		{api.ErrDuplicate, []api.Group{group("all", "B", "@x")}},
		{api.ErrTooLarge, []api.Group{group("a", make([]string, mostMembers+1)...), group("A")}},
		{api.ErrSyntax, []api.Group{group("a", "B"), group("a")}},
		{api.ErrSyntax, []api.Group{group("a", "B", "@x")}},
		{api.ErrUnknown, []api.Group{group("a", "@x", "B")}},
		{api.ErrUnknown, []api.Group{group("a", "@x"), group("A")}},
		{api.ErrUnknown, []api.Group{group("a", "@x"), group("b", make([]string, mostMembers+1)...)}},
	} {
		for _, more := range []api.Policy{{}, {Rules: make([]api.Rule, 1)}, {Guards: make([]api.Guard, 1)}, whole()} {
			mustRefuse(t, api.Policy{Groups: p.groups, Rules: more.Rules, Guards: more.Guards}, p.err)
		}
	}
	none := api.Scope{}
	mustRefuse(t, rules(allow(0, "none", none)), api.ErrRange)
	mustRefuse(t, rules(allow(1, "none", none)), api.ErrUnknown)
	mustRefuse(t, rules(allow(1, "all", none), allow(0, "none", none)), api.ErrForm)
	mustRefuse(t, rules(allow(1, "none", everything()), allow(0, "all", none)), api.ErrUnknown)
	mustRefuse(t, api.Policy{Rules: []api.Rule{allow(1, "all", none)}, Guards: make([]api.Guard, 1)}, api.ErrForm)
	mustRefuse(t, guards(guard("none", page("a"), " ")), api.ErrUnknown)
	mustRefuse(t, guards(guard("all", page("a"), ""), guard("none", page("A"), "")), api.ErrForm)
	mustRefuse(t, guards(guard("none", page("A"), ""), guard("all", page("a"), "")), api.ErrUnknown)
}

// anyGroups, anyRules and anyGuards are elements of policies of any form.
func anyGroups() []api.Group {
	return []api.Group{group("a"), group("b", "x", "@a"), group("c", "@c", "@b", "@users"), group("A"), group("all"), group(""), group("d", "@e"), group("e", "", "@"), group("f", slices.Repeat([]string{"y"}, mostMembers+1)...), group("a", "\xff")}
}

func anyRules() []api.Rule {
	return []api.Rule{allow(1, "all", everything()), deny(5, "a", inSpace(5)), allow(3, "b", below(page("A/b"))), deny(0, "all", everything()), allow(6, "z", inSpace(0)), allow(2, "z", below(page("a"))), deny(4, "users", below(api.Title{})), {}, allow(2, "@a", everything()), allow(1, "users", api.Scope{Kind: api.ScopeAll, Title: api.Title{Space: 1}})}
}

func anyGuards() []api.Guard {
	return []api.Guard{guard("all", page("A"), ""), strict("a", api.Title{Space: api.User, Name: "B"}, "x y"), guard("b", page("A"), "\xff"), {}, strict("z", page("a"), ""), guard("users", page("a"), "x"), guard("users", page("A"), " x"), guard("a", page("A"), "x|y"), strict("c", page("A"), strings.Repeat("x", longestSection+1)), guard("A", page("A"), "x\n")}
}

func TestValidateAllShortLists(t *testing.T) {
	sample.Lists(4, anyGroups(), func(l []api.Group) { mustTreatAsWords(t, groups(l...)) })
	sample.Lists(3, anyRules(), func(l []api.Rule) {
		mustTreatAsWords(t, rules(l...))
		mustTreatAsWords(t, api.Policy{Groups: []api.Group{group("a"), group("b")}, Rules: l})
	})
	sample.Lists(3, anyGuards(), func(l []api.Guard) {
		mustTreatAsWords(t, guards(l...))
		mustTreatAsWords(t, api.Policy{Groups: []api.Group{group("a"), group("b"), group("c")}, Guards: l})
	})
	sample.Lists(1, anyGroups(), func(l []api.Group) {
		sample.Lists(1, anyRules(), func(m []api.Rule) {
			sample.Lists(1, anyGuards(), func(n []api.Guard) {
				mustTreatAsWords(t, api.Policy{Groups: l, Rules: m, Guards: n})
			})
		})
	})
}

// some returns a list of fewer than n of the elements.
func some[T any](random *rand.Rand, n int, elements []T) []T {
	var l []T
	for range random.Intn(n) {
		l = append(l, elements[random.Intn(len(elements))])
	}
	return l
}

// anyTexts are names, words and other texts.
func anyTexts() []string {
	return []string{"a", "b", "c1", "all", "users", "A", "Talk", "@a", "@b", "@all", "@users", "@", "", " ", "a b", "#", "|", "\n", "\xff", "x\t", "<all>", strings.Repeat("n", longestName), strings.Repeat("n", longestName+1), strings.Repeat("S", longestSection), strings.Repeat("S", longestSection+1)}
}

func TestValidateRandomPolicies(t *testing.T) {
	random := rand.New(rand.NewSource(12))
	text := func() string { return anyTexts()[random.Intn(len(anyTexts()))] }
	number := func() int { return random.Intn(9) - 1 }
	for range 20000 {
		var p api.Policy
		for range random.Intn(3) {
			p.Groups = append(p.Groups, group(text(), some(random, 4, anyTexts())...))
		}
		for range random.Intn(3) {
			p.Rules = append(p.Rules, api.Rule{Allow: number() > 3, Right: number(), Group: text(), Scope: api.Scope{Kind: number(), Title: api.Title{Space: number(), Name: text()}}})
		}
		for range random.Intn(3) {
			p.Guards = append(p.Guards, api.Guard{Strict: number() > 3, Group: text(), Title: api.Title{Space: number(), Name: text()}, Section: text()})
		}
		mustTreatAsWords(t, p)
	}
}

// P12.3 and P12.4

func TestParseNothing(t *testing.T) {
	for _, s := range []string{"", "\n", "\n\n\n", " ", "\t", " \t \n\t", "#", "#\n", "# group", "#group a", "##", " #", "\t # x\n  \n#y", "#\xff\x00", "#|", "# allow read all"} {
		mustParse(t, s, api.Policy{})
	}
	mustParse(t, strings.Repeat("\n", longestText), api.Policy{})
	mustParse(t, strings.Repeat(" ", longestText), api.Policy{})
}

func TestParseComments(t *testing.T) {
	mustParse(t, "# a\ngroup a\n\t#group b\n\n group c\n#", groups(group("a"), group("c")))
	// Only the first word makes a comment.
	mustNotState(t, "x #", "x # y", "allow #", "allow read #")
	mustParse(t, "allow read all A\n#deny read all A", rules(allow(1, "all", below(page("A")))))
	for _, s := range []string{"group #", "group #a", "group a #b", "group a # b"} {
		mustFail(t, s, 0, api.ErrSyntax)
	}
	mustNotState(t, "allow read all #", "allow read all A #", "allow read all <all> # x", "guard all A #x")
	mustParse(t, "guard all A | # x", guards(guard("all", page("A"), "# x")))
	mustParse(t, "guard all A | #", guards(guard("all", page("A"), "#")))
}

func TestParseGroups(t *testing.T) {
	mustParse(t, "group a", groups(group("a")))
	mustParse(t, "group a b", groups(group("a", "b")))
	mustParse(t, "group a c b b", groups(group("a", "c", "b", "b")))
	mustParse(t, "\t group \t a\tb  @a \t@all\t", groups(group("a", "b", "@a", "@all")))
	mustParse(t, "group group group", groups(group("group", "group")))
	mustParse(t, "group b @a\ngroup a", groups(group("b", "@a"), group("a")))
	mustParse(t, "group a"+strings.Repeat(" b", mostMembers), groups(group("a", slices.Repeat([]string{"b"}, mostMembers)...)))
	mustFail(t, "group a"+strings.Repeat(" b", mostMembers+1), 0, api.ErrTooLarge)
	mustNotState(t, "group", " group ", "group\t", "groupa", "Group a", "GROUP a", "groups a", "a group")
	mustFail(t, "group <all>", 0, api.ErrSyntax)
	mustFail(t, "group a\ngroup b\ngroup a", 0, api.ErrDuplicate)
	mustFail(t, "group users", 0, api.ErrDuplicate)
	mustFail(t, "group a @b", 0, api.ErrUnknown)
	mustFail(t, "group a,b", 0, api.ErrSyntax)
}

func TestParseRights(t *testing.T) {
	for i, word := range []string{"read", "edit", "move", "delete", "review"} {
		mustParse(t, "allow "+word+" all <all>", rules(allow(i+1, "all", everything())))
		mustParse(t, "deny "+word+" all <all>", rules(deny(i+1, "all", everything())))
		mustNotState(t, "allow "+strings.ToUpper(word)+" all <all>", "allow "+word+"s all <all>", "allow "+word[1:]+" all <all>", "deny x"+word+" all <all>")
	}
	mustNotState(t, "allow", "deny", "allow all <all>", "allow 1 all <all>", "allow write all <all>", "allow read,edit all <all>", "allow <all> read all", "Allow read all <all>", "Deny read all <all>", "denyread all <all>", "allow \x00 all <all>")
}

func TestParseScopes(t *testing.T) {
	mustParse(t, "allow read all <all>", rules(allow(1, "all", everything())))
	for space, word := range []string{"<Main>", "<Talk>", "<User>", "<Template>", "<Category>", "<Project>"} {
		mustParse(t, "allow read all "+word, rules(allow(1, "all", inSpace(space))))
		mustParse(t, "deny edit users\t "+word+" \t", rules(deny(2, "users", inSpace(space))))
		mustNotState(t, "allow read all "+strings.ToLower(word), "allow read all "+word[1:], "allow read all "+word[:len(word)-1], "allow read all "+word+" x", "allow read all x"+word, "allow read all "+word+word, "allow read all < "+word[1:], "allow read all "+word+"|", "allow read all "+word+"\r")
		bare := strings.Trim(word, "<>")
		mustParse(t, "allow read all "+bare, rules(allow(1, "all", below(page(bare)))))
	}
	mustNotState(t, "allow read all <All>", "allow read all <users>", "allow read all <>", "allow read all < all >", "allow read all <all", "allow read all <all>|", "allow read all <all> <all>", "allow read all <Users>", "allow read all <all>A")
	mustParse(t, "allow read all all", rules(allow(1, "all", below(page("All")))))
}

func TestParseTitlesOfRules(t *testing.T) {
	for s, of := range map[string]api.Title{
		"A":                      page("A"),
		"a":                      page("A"),
		"main page":              page("Main page"),
		" A   b_c ":              page("A b c"),
		"talk : x / y":           {Space: api.Talk, Name: "X/y"},
		"user:ann/diary":         {Space: api.User, Name: "Ann/diary"},
		":template:a":            {Space: api.Template, Name: "A"},
		"Project:Policy":         {Space: api.Project, Name: "Policy"},
		"_x_":                    page("X"),
		"\u00e9\xff":             page("\u00e9\xff"),
		strings.Repeat("A", 100): page(strings.Repeat("A", 100)),
	} {
		mustParse(t, "allow move users "+s, rules(allow(3, "users", below(of))))
		mustParse(t, "\tdeny\tmove\tusers\t"+s+"\t", rules(deny(3, "users", below(of))))
	}
	for _, s := range []string{"", " ", "_", "A|b", "A#b", "[[A]]", "Talk:", "A//b", "/A", "A\tb", "A\rb", "A\r", "A\x7f", strings.Repeat("A", 101), strings.Repeat("A", 8000)} {
		mustNotState(t, "allow move users "+s)
	}
}

func TestParseGroupsOfRules(t *testing.T) {
	mustParse(t, "allow read a <all>\ngroup a\ndeny read a A", api.Policy{Groups: []api.Group{group("a")}, Rules: []api.Rule{allow(1, "a", everything()), deny(1, "a", below(page("A")))}})
	mustNotState(t, "allow read", "allow read all", "deny read all ", "deny read\tall\t", "allow read <all>")
	for _, word := range []string{"nobody", "A", "@all", "#", "|", "\xff", "a,b", "<all>"} {
		mustFail(t, "allow read "+word+" <all>", 0, api.ErrUnknown)
		mustFail(t, "guard "+word+" A", 0, api.ErrUnknown)
		mustFail(t, "allow read all <all>\nstrict "+word+" A | b", 0, api.ErrUnknown)
	}
}

func TestParseGuards(t *testing.T) {
	mustParse(t, "guard all A", guards(guard("all", page("A"), "")))
	mustParse(t, "strict users A", guards(strict("users", page("A"), "")))
	for _, s := range []string{"guard all a b|x", "guard all a b | x", "guard all a b\t|\tx", "\tguard\tall\ta b  |\t x \t", "guard  all  a_b| x"} {
		mustParse(t, s, guards(guard("all", page("A b"), "x")))
	}
	mustParse(t, "strict all A | x  y\tz ", guards(strict("all", page("A"), "x  y\tz")))
	mustParse(t, "strict all talk:x_y | a_b", guards(strict("all", api.Title{Space: api.Talk, Name: "X y"}, "a_b")))
	mustParse(t, "guard a A\ngroup a", api.Policy{Groups: []api.Group{group("a")}, Guards: []api.Guard{guard("a", page("A"), "")}})
	mustParse(t, "guard all all | all", guards(guard("all", page("All"), "all")))
	mustNotState(t, "guard", "strict", "guard all", "guard all ", "strict all\t", "guard all a#b", "guard all <all>", "guard all <Main>", "guard all A <", "guard all "+strings.Repeat("A", 101), "Guard all A", "guards all A", "strictly all A", "guard all A\tb", "guard allA")
}

func TestParseBars(t *testing.T) {
	mustNotState(t, "guard all A |", "guard all A|", "guard all A | \t ", "strict all A\t|\t", "guard all |", "guard all | x", "guard all|A", "guard all |A", "guard |", "guard all _|x", "guard all a#b | x")
	for _, section := range []string{"x | y", "x|y", "||", "|", "| x", "x |", "x | | y", "|x|"} {
		mustFail(t, "guard all A | "+section, 0, api.ErrForm)
		mustFail(t, "guard all A |"+section+"\ngroup a", 0, api.ErrForm)
	}
	// A word of bars is a group that does not exist.
	mustFail(t, "guard | A", 0, api.ErrUnknown)
	mustFail(t, "guard a|b A | x", 0, api.ErrUnknown)
	mustNotState(t, "guard a|b", "allow read all A | x", "deny read all | A")
}

func TestParseSections(t *testing.T) {
	long := strings.Repeat("x", longestSection)
	mustParse(t, "guard all A | "+long+" \t", guards(guard("all", page("A"), long)))
	mustFail(t, "guard all A | "+long+"x", 0, api.ErrForm)
	for _, section := range []string{"#", "<all>", "==", "\r", "x\r", "\xff\xfe", "\x00", "\u00a0", "\u2003x\u3000", "A/b:c"} {
		mustParse(t, "strict all A | \t"+section+"\t ", guards(strict("all", page("A"), section)))
	}
}

func TestParseOtherStatements(t *testing.T) {
	mustNotState(t, "x", "all", "read", "<all>", "|", "@a", "alloW read all <all>", "allow:", "\x00", "\xff", "-", "users", "grouped a", "disallow read all A")
}

func TestParseEachByteBetweenWords(t *testing.T) {
	for _, b := range eachByte() {
		texts := []string{"group" + b + "a", "allow" + b + "read all <all>", "deny read" + b + "all <all>", "allow read all" + b + "<all>", "guard" + b + "all A", "strict all" + b + "A | x"}
		for _, s := range texts {
			_, _, err := Parse(s)
			if blank := b == "\t" || b == " "; blank != (err == api.OK) {
				t.Errorf("Parse(%q) returns %v", s, err)
			}
			mustParseAsWords(t, s)
		}
		for _, s := range []string{"group a" + b + "b", "allow read all <all>" + b, b + "allow read all A", "guard all A" + b + "| x", "guard all A |" + b + "x", "guard all A | x" + b, "guard all A | x" + b + "y", "guard all A" + b + "b", "#" + b + "x", b + "#", b} {
			mustParseAsWords(t, s)
		}
	}
	for _, blank := range otherBlanks() {
		mustNotState(t, blank, "group"+blank+"a", "allow read all <all>"+blank, blank+"group a", blank+"#")
		mustFail(t, "group a"+blank, 0, api.ErrSyntax)
		mustFail(t, "group a b"+blank+"c", 0, api.ErrSyntax)
	}
}

// Groups, rules and guards may stand in any order; each list has the order of its lines.
func TestParseOrder(t *testing.T) {
	want := api.Policy{
		Groups: []api.Group{group("b", "x"), group("a", "@b"), group("c")},
		Rules:  []api.Rule{deny(1, "c", everything()), allow(1, "a", everything()), deny(1, "c", everything())},
		Guards: []api.Guard{strict("b", page("Z"), ""), guard("a", page("A"), "y"), strict("b", page("Z"), "")},
	}
	statements := []string{"group b x", "group a @b", "group c", "deny read c <all>", "allow read a <all>", "deny read c <all>", "strict b Z", "guard a A | y", "strict b Z"}
	mustParse(t, strings.Join(statements, "\n"), want)
	for _, order := range [][]int{{6, 7, 8, 3, 4, 5, 0, 1, 2}, {3, 0, 6, 4, 1, 7, 5, 2, 8}, {6, 3, 0, 1, 4, 7, 8, 2, 5}} {
		var lines []string
		for _, i := range order {
			lines = append(lines, statements[i])
		}
		for _, separator := range []string{"\n", "\n\n", "\n#group b\n", " \n\t"} {
			mustParse(t, strings.Join(lines, separator), want)
			mustParse(t, strings.Join(lines, separator)+"\n", want)
		}
	}
}

func TestParseLineNumbers(t *testing.T) {
	for _, line := range []string{"", "#", " ", "group a b", "deny read nobody A", "guard all A | x|y", "# x\r", "group All"} {
		for n := range 30 {
			mustFail(t, strings.Repeat(line+"\n", n)+"x", n+1, api.ErrSyntax)
			mustFail(t, strings.Repeat(line+"\n", n)+"allow read all\n", n+1, api.ErrSyntax)
		}
	}
	mustFail(t, strings.Repeat("\n", longestText-1)+"x", longestText, api.ErrSyntax)
	mustFail(t, "x"+strings.Repeat("\n", longestText-1), 1, api.ErrSyntax)
	mustFail(t, "group a\r\nx\r\n", 2, api.ErrSyntax)
	mustFail(t, "group a\rx", 0, api.ErrSyntax)
}

// Of several errors the first line counts, and all lines come before what Validate finds.
func TestParseErrorOrder(t *testing.T) {
	mustFail(t, "group a\nx\nallow read all\ny", 2, api.ErrSyntax)
	mustFail(t, "group A\ngroup all\nallow read all <all>\nx", 4, api.ErrSyntax)
	mustFail(t, "group a @b\nguard all A |", 2, api.ErrSyntax)
	mustFail(t, strings.Repeat("allow read all A\n", mostRules+1)+"x", mostRules+2, api.ErrSyntax)
	mustFail(t, "group a"+strings.Repeat(" b", mostMembers+1)+"\nallow read all "+strings.Repeat("A", 101), 2, api.ErrSyntax)
	mustFail(t, "guard nobody A\nallow read nobody A\ngroup all\ngroup A", 0, api.ErrDuplicate)
	mustFail(t, "guard nobody A\nallow read all A\nguard all A | x|y", 0, api.ErrUnknown)
	mustFail(t, "guard all A | x|y\nguard nobody A", 0, api.ErrForm)
	mustFail(t, "guard all A | x|y\nallow read nobody A", 0, api.ErrUnknown)
	mustFail(t, strings.Repeat("x\n", longestText), 0, api.ErrTooLarge)
}

func TestParseSizes(t *testing.T) {
	var lines string
	for i := range mostGroups {
		lines += fmt.Sprintf("group g%d\n", i)
	}
	mustParse(t, lines, groups(named(mostGroups)...))
	mustFail(t, lines+"group more", 0, api.ErrTooLarge)
	mustFail(t, "group All\n"+lines, 0, api.ErrTooLarge)
	r, g := allow(1, "all", below(page("A"))), strict("users", page("B"), "c")
	many := strings.Repeat("allow read all A\n", mostRules)
	mustParse(t, many, rules(slices.Repeat([]api.Rule{r}, mostRules)...))
	mustFail(t, many+"deny read nobody A", 0, api.ErrTooLarge)
	guarded := strings.Repeat("strict users B|c\n", mostRules)
	mustParse(t, guarded, guards(slices.Repeat([]api.Guard{g}, mostRules)...))
	mustFail(t, guarded+"guard nobody A", 0, api.ErrTooLarge)
	mustParse(t, guarded+lines+many, api.Policy{Groups: named(mostGroups), Rules: slices.Repeat([]api.Rule{r}, mostRules), Guards: slices.Repeat([]api.Guard{g}, mostRules)})
}

func TestParseLongTexts(t *testing.T) {
	mustParse(t, strings.Repeat("#", longestText), api.Policy{})
	mustFail(t, strings.Repeat("#", longestText+1), 0, api.ErrTooLarge)
	mustFail(t, strings.Repeat(" ", longestText+1), 0, api.ErrTooLarge)
	mustFail(t, strings.Repeat("x", longestText+1), 0, api.ErrTooLarge)
	mustFail(t, strings.Repeat("x", longestText), 1, api.ErrSyntax)
	mustFail(t, "group "+strings.Repeat("a", longestText-6), 0, api.ErrSyntax)
	mustFail(t, "group a"+strings.Repeat(" b", (longestText-7)/2), 0, api.ErrTooLarge)
	mustFail(t, strings.Repeat("\xff\n", 1<<20), 0, api.ErrTooLarge)
	text := "group a b\n"
	mustParse(t, text+strings.Repeat("\n", longestText-len(text)), groups(group("a", "b")))
	mustFail(t, text+strings.Repeat("\n", longestText-len(text)+1), 0, api.ErrTooLarge)
	mustParse(t, strings.Repeat(" ", longestText-len(text))+text, groups(group("a", "b")))
}

func TestParseAllShortTexts(t *testing.T) {
	readAll := func(before string, n int, pieces ...string) {
		sample.Texts(n, pieces, func(s string) { mustParseAsWords(t, before+s) })
	}
	readAll("", 5, "group", " ", "\t", "a", "@", "\n", "#", "b")
	readAll("", 3, "group a", "allow read a", "deny edit users <all>", "guard", "strict all A", " ", "\n", "|", "x", "\r")
	readAll("allow read all", 5, " ", "\t", "<", "all", ">", "Main", "\n", "#")
	readAll("deny", 5, " ", "edit", "move", "all", "users", "<User>", "x", "\t")
	readAll("guard all", 6, " ", "\t", "A", "|", "x", "\n")
	readAll("strict", 5, " ", "users", "A", "|", "_", "x", "\xff")
}

func TestParseRandomTexts(t *testing.T) {
	random := rand.New(rand.NewSource(1204))
	pieces := append(anyTexts(), "group", "allow", "deny", "guard", "strict", "read", "edit", "move", "delete", "review", "<Main>", "<Talk>", "<Project>", "<main>", "A/b", "user:x", "x", "\t", "\r", "_")
	for range 20000 {
		mustParseAsWords(t, strings.Join(some(random, 12, pieces), " "))
		mustParseAsWords(t, strings.Join(some(random, 12, pieces), ""))
	}
	lines := []string{"group a", "group b @a x", "group c @c @d", "group d", "allow read a <all>", "deny edit users <User>", "allow move b talk:x/y", "guard a A|x", "strict users B c", "guard d A | #", "", "# x", "\t", "allow read nobody A", "group A", "x"}
	for range 20000 {
		mustParseAsWords(t, strings.Join(some(random, 8, lines), "\n"))
	}
}

// What Parse returns shares no memory within itself.
func TestParseSharesNothing(t *testing.T) {
	text := "group a x y\ngroup b z\nallow read a <all>"
	p, _, _ := Parse(text)
	p.Groups[0].Name = "changed"
	for i := range p.Groups[0].Members {
		p.Groups[0].Members[i] = "changed"
	}
	_ = append(p.Groups[0].Members, "changed")
	if !slices.Equal(p.Groups[1].Members, []string{"z"}) {
		t.Errorf("the members of the second group have become %q", p.Groups[1].Members)
	}
	mustParse(t, text, api.Policy{Groups: []api.Group{group("a", "x", "y"), group("b", "z")}, Rules: []api.Rule{allow(1, "a", everything())}})
}

// P12.5

func TestFormatNothing(t *testing.T) {
	mustFormat(t, api.Policy{}, "")
	mustFormat(t, api.Policy{Groups: []api.Group{}, Rules: []api.Rule{}, Guards: []api.Guard{}}, "")
}

func TestFormatGroups(t *testing.T) {
	mustFormat(t, groups(group("a")), "group a\n")
	mustFormat(t, groups(group("b", "x"), group("a", "@b", "x", "@all", "x")), "group b x\ngroup a @b x @all x\n")
}

func TestFormatRules(t *testing.T) {
	for i, word := range []string{"read", "edit", "move", "delete", "review"} {
		mustFormat(t, rules(allow(i+1, "all", everything()), deny(i+1, "users", everything())), "allow "+word+" all <all>\ndeny "+word+" users <all>\n")
	}
	for space, word := range []string{"<Main>", "<Talk>", "<User>", "<Template>", "<Category>", "<Project>"} {
		mustFormat(t, rules(allow(1, "all", inSpace(space))), "allow read all "+word+"\n")
		of := api.Title{Space: space, Name: "A b/c"}
		mustFormat(t, rules(deny(1, "all", below(of))), "deny read all "+strings.TrimPrefix(strings.Trim(word, "<>")+":A b/c\n", "Main:"))
		mustFormat(t, guards(guard("all", of, "")), "guard all "+strings.TrimPrefix(strings.Trim(word, "<>")+":A b/c\n", "Main:"))
	}
	mustFormat(t, rules(allow(1, "all", below(page("All")))), "allow read all All\n")
	mustFormat(t, rules(allow(1, "all", below(api.Title{Space: api.Talk, Name: "Talk:x"}))), "allow read all Talk:Talk:x\n")
}

func TestFormatGuards(t *testing.T) {
	mustFormat(t, guards(guard("all", page("A"), "x"), strict("users", page("B c"), ""), guard("all", page("A"), "x\t y")), "guard all A | x\nstrict users B c\nguard all A | x\t y\n")
	for _, section := range []string{"#", "\r", "\xff", "\u00a0", "<all>", strings.Repeat("s", longestSection)} {
		mustFormat(t, guards(strict("all", page("A"), section)), "strict all A | "+section+"\n")
	}
}

// Groups come first, then rules, then guards, each in their order.
func TestFormatOrder(t *testing.T) {
	p, _, _ := Parse("strict b Z\ndeny read c <Talk>\ngroup c\nguard a A|y\nallow read a b\ngroup a @b\n#\n\ngroup b x")
	mustFormat(t, p, "group c\ngroup a @b\ngroup b x\ndeny read c <Talk>\nallow read a B\nstrict b Z\nguard a A | y\n")
}

// sized returns a policy whose text has 8132 bytes and n more.
func sized(n int) api.Policy {
	l := slices.Repeat([]api.Guard{guard("all", page(strings.Repeat("T", 100)), strings.Repeat("s", 100))}, 38)
	return guards(append(l, guard("all", page(strings.Repeat("T", n-len("guard all \n"))), ""))...)
}

func TestFormatSizes(t *testing.T) {
	for n := 50; n <= longestText-8132; n++ {
		text, err := Format(sized(n))
		if len(text) != 8132+n || err != api.OK {
			t.Fatalf("Format returns %d bytes, %v, want %d bytes", len(text), err, 8132+n)
		}
		mustParse(t, text, sized(n))
	}
	for n := longestText - 8132 + 1; n < 100; n++ {
		mustCheck(t, sized(n), api.OK)
		mustWrite(t, sized(n), "", api.ErrTooLarge)
	}
	crowd := named(mostGroups)
	for i := range crowd {
		crowd[i].Members = slices.Repeat([]string{strings.Repeat("m", longestName)}, mostMembers)
	}
	mustCheck(t, groups(crowd...), api.OK)
	mustWrite(t, groups(crowd...), "", api.ErrTooLarge)
	// The error of Validate comes first.
	mustRefuse(t, api.Policy{Groups: crowd, Rules: make([]api.Rule, 1)}, api.ErrRange)
	mustRefuse(t, api.Policy{Groups: crowd, Guards: make([]api.Guard, 1)}, api.ErrUnknown)
}

// randomTitle returns a valid title.
func randomTitle(random *rand.Rand) api.Title {
	for {
		of := api.Title{Space: random.Intn(api.Spaces), Name: strings.Join(some(random, 6, []string{"A", "b", " ", "/", ":", "Talk", "1", "\xff", "all"}), "")}
		if title.Valid(of) {
			return of
		}
	}
}

// randomScope returns a scope that fits.
func randomScope(random *rand.Rand) api.Scope {
	l := []api.Scope{everything(), inSpace(random.Intn(api.Spaces)), below(randomTitle(random))}
	return l[random.Intn(len(l))]
}

// randomPolicy returns a valid policy.
func randomPolicy(random *rand.Rand) api.Policy {
	var p api.Policy
	known := []string{"all", "users"}
	for i := range random.Intn(5) {
		known = append(known, fmt.Sprint("g", i))
	}
	members := []string{"ann", "g", "z9"}
	for _, name := range known {
		members = append(members, "@"+name)
	}
	for _, name := range known[2:] {
		p.Groups = append(p.Groups, group(name, some(random, 5, members)...))
	}
	for range random.Intn(6) {
		p.Rules = append(p.Rules, api.Rule{Allow: random.Intn(2) == 0, Right: 1 + random.Intn(5), Group: known[random.Intn(len(known))], Scope: randomScope(random)})
	}
	for range random.Intn(6) {
		section := strings.Trim(strings.Join(some(random, 6, []string{"x", " ", "\t", "#", "\r", "<", "\xff", "Y"}), ""), "\t ")
		p.Guards = append(p.Guards, api.Guard{Strict: random.Intn(2) == 0, Group: known[random.Intn(len(known))], Title: randomTitle(random), Section: section})
	}
	return p
}

func TestFormatRandomPolicies(t *testing.T) {
	random := rand.New(rand.NewSource(1205))
	for range 20000 {
		p := randomPolicy(random)
		mustCheck(t, p, api.OK)
		mustTreatAsWords(t, p)
	}
}
