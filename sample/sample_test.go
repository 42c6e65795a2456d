package sample

import (
	"slices"
	"testing"
)

func mustMake(t *testing.T, n int, pieces []string, want ...string) {
	t.Helper()
	var got []string
	Texts(n, pieces, func(s string) { got = append(got, s) })
	if !slices.Equal(got, want) {
		t.Errorf("Texts(%d, %q) = %q, want %q", n, pieces, got, want)
	}
}

func TestTexts(t *testing.T) {
	mustMake(t, 2, []string{"a", "bc"}, "", "a", "aa", "abc", "bc", "bca", "bcbc")
	mustMake(t, 1, []string{"a", "b", "c"}, "", "a", "b", "c")
	mustMake(t, 3, nil, "")
	mustMake(t, 0, []string{"a"}, "")
	mustMake(t, -1, []string{"a"}, "")
}
