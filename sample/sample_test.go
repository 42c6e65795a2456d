package sample

import (
	"slices"
	"testing"
)

func mustMake(t *testing.T, n int, pieces []string, want ...string) {
	t.Helper()
	var got []string
	Texts(n, pieces, func(s string) { got = append(got, s) })
	if !slices.Equal(got, want) {
		t.Errorf("Texts(%d, %q) = %q, want %q", n, pieces, got, want)
	}
}

func mustMakeLists[T comparable](t *testing.T, n int, pieces []T, want ...[]T) {
	t.Helper()
	var got [][]T
	Lists(n, pieces, func(l []T) { got = append(got, l) })
	if !slices.EqualFunc(got, want, slices.Equal) {
		t.Errorf("Lists(%d, %v) = %v, want %v", n, pieces, got, want)
	}
}

func TestTexts(t *testing.T) {
	mustMake(t, 2, []string{"a", "bc"}, "", "a", "aa", "abc", "bc", "bca", "bcbc")
	mustMake(t, 1, []string{"a", "b", "c"}, "", "a", "b", "c")
	mustMake(t, 3, nil, "")
	mustMake(t, 0, []string{"a"}, "")
	mustMake(t, -1, []string{"a"}, "")
}

func TestLists(t *testing.T) {
	mustMakeLists(t, 2, []int{1, 2}, nil, []int{1}, []int{1, 1}, []int{1, 2}, []int{2}, []int{2, 1}, []int{2, 2})
	mustMakeLists(t, 1, []string{"a", ""}, nil, []string{"a"}, []string{""})
	mustMakeLists(t, 3, nil, []int(nil))
	mustMakeLists(t, 0, []int{1}, nil)
	mustMakeLists(t, -1, []int{1}, nil)
}

// What is made later does not change a list that is kept.
func TestListsAreKept(t *testing.T) {
	var kept, copies [][]int
	Lists(5, []int{1, 2, 3}, func(l []int) {
		kept, copies = append(kept, l), append(copies, slices.Clone(l))
	})
	if !slices.EqualFunc(kept, copies, slices.Equal) {
		t.Errorf("the lists have become %v, want %v", kept, copies)
	}
}
