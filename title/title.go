// Package title: titles of pages. See ../../shared/doc/01-title.md.
package title

import (
	"cmp"
	"strings"

	"transclude/api"
)

const (
	blank     = ' '
	separator = "/"
	colon     = ":"
	forbidden = "<>[]{}|#_"
)

var spaceNames = [api.Spaces]string{"", "Talk", "User", "Template", "Category", "Project"}

// Parse returns the title that a text normalizes to.
func Parse(s string) (api.Title, api.Errno) {
	text := skipColon(squeeze(s))
	space := prefixSpace(text)
	if space != api.Main {
		_, rest, _ := strings.Cut(text, colon)
		text = strings.TrimPrefix(rest, " ")
	}
	t := api.Title{Space: space, Name: capitalize(joinParts(text))}
	if len(t.Name) > api.MaxTitle {
		return api.Title{}, api.ErrTooLarge
	}
	if !Valid(t) {
		return api.Title{}, api.ErrSyntax
	}
	return t, api.OK
}

// Format returns the text of a valid title, and the empty string for any other one.
func Format(t api.Title) string {
	if !Valid(t) {
		return ""
	}
	if t.Space == api.Main {
		return t.Name
	}
	return spaceNames[t.Space] + colon + t.Name
}

// Valid reports whether a title is valid.
func Valid(t api.Title) bool {
	if t.Space < 0 || t.Space >= api.Spaces {
		return false
	}
	if len(t.Name) < 1 || len(t.Name) > api.MaxTitle {
		return false
	}
	if t.Name[0] == ':' || isSmall(t.Name[0]) {
		return false
	}
	if t.Space == api.Main && prefixSpace(t.Name) != api.Main {
		return false
	}
	return validBytes(t.Name) && validParts(t.Name)
}

// Compare orders titles by their namespaces and then by their names.
func Compare(a, b api.Title) int {
	return cmp.Or(cmp.Compare(a.Space, b.Space), strings.Compare(a.Name, b.Name))
}

// Ancestors returns the titles above a valid title, the shortest first.
func Ancestors(t api.Title) []api.Title {
	if !Valid(t) {
		return nil
	}
	var above []api.Title
	for i := range len(t.Name) {
		if t.Name[i] == '/' {
			above = append(above, api.Title{Space: t.Space, Name: t.Name[:i]})
		}
	}
	return above
}

// Resolve returns the title for a text that is relative to base if it begins with "/".
func Resolve(base api.Title, s string) (api.Title, api.Errno) {
	rest := strings.TrimLeft(s, " _")
	if strings.HasPrefix(rest, separator) {
		return Parse(Format(base) + rest)
	}
	return Parse(s)
}

// squeeze turns each sequence of "_" and blanks into one blank, and drops it at both ends.
func squeeze(s string) string {
	var out strings.Builder
	waiting := false
	// Bytes, not runes: a text that is not UTF-8 must keep its bytes.
	for i := range len(s) {
		if s[i] == blank || s[i] == '_' {
			waiting = true
			continue
		}
		if waiting && out.Len() > 0 {
			out.WriteByte(blank)
		}
		waiting = false
		out.WriteByte(s[i])
	}
	return out.String()
}

// skipColon removes a ":" at the beginning, with the blank behind it.
func skipColon(s string) string {
	rest, found := strings.CutPrefix(s, colon)
	if !found {
		return s
	}
	return strings.TrimPrefix(rest, " ")
}

// joinParts removes the blanks around each "/"; s has been squeezed, so there is at most one on each side.
func joinParts(s string) string {
	s = strings.ReplaceAll(s, " "+separator, separator)
	return strings.ReplaceAll(s, separator+" ", separator)
}

func capitalize(s string) string {
	if s == "" || !isSmall(s[0]) {
		return s
	}
	return string(rune(s[0]-'a'+'A')) + s[1:]
}

// prefixSpace returns the namespace that the prefix of s names, or Main if there is none.
func prefixSpace(s string) int {
	before, _, found := strings.Cut(s, colon)
	if !found {
		return api.Main
	}
	prefix := strings.TrimSuffix(before, " ")
	for space := api.Main + 1; space < api.Spaces; space++ {
		if equalFold(prefix, spaceNames[space]) {
			return space
		}
	}
	return api.Main
}

// equalFold ignores the case of the letters A to Z only; strings.EqualFold would also accept the Kelvin sign for k.
func equalFold(a, b string) bool {
	if len(a) != len(b) {
		return false
	}
	for i := range len(a) {
		if toSmall(a[i]) != toSmall(b[i]) {
			return false
		}
	}
	return true
}

func validBytes(name string) bool {
	for i := range len(name) {
		c := name[i]
		if c < 32 || c == 127 || strings.IndexByte(forbidden, c) >= 0 {
			return false
		}
	}
	return !strings.Contains(name, "  ")
}

func validParts(name string) bool {
	for part := range strings.SplitSeq(name, separator) {
		if part == "" || part[0] == blank || part[len(part)-1] == blank {
			return false
		}
	}
	return true
}

func isSmall(c byte) bool { return 'a' <= c && c <= 'z' }

func toSmall(c byte) byte {
	if 'A' <= c && c <= 'Z' {
		return c - 'A' + 'a'
	}
	return c
}
