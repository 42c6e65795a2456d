package strfunc

import (
	"fmt"
	"math"
	"math/rand"
	"slices"
	"strings"
	"testing"
	"unicode/utf8"

	"transclude/api"
	"transclude/sample"
)

// most is MaxString, written anew so that the tests fix its value.
const most = 32768

// mustBe checks what a call, described by its format, has returned. It ends the test, as many tests would fail for each text.
func mustBe[T comparable](t *testing.T, got, want T, format string, args ...any) {
	t.Helper()
	if got != want {
		t.Fatalf("%s = %.99q, want %.99q", fmt.Sprintf(format, args...), fmt.Sprint(got), fmt.Sprint(want))
	}
}

// outcome is a text or an error.
type outcome struct {
	text string
	err  api.Errno
}

func mustHaveLength(t *testing.T, want int, texts ...string) {
	t.Helper()
	for _, s := range texts {
		mustBe(t, Length(s), want, "Length(%.99q)", s)
	}
}

func mustSlice(t *testing.T, s string, from, n int, want string) {
	t.Helper()
	mustBe(t, Slice(s, from, n), want, "Slice(%.99q, %d, %d)", s, from, n)
}

func mustFind(t *testing.T, s, what string, from, want int) {
	t.Helper()
	mustBe(t, Find(s, what, from), want, "Find(%.99q, %.99q, %d)", s, what, from)
}

func mustCount(t *testing.T, s, what string, want int) {
	t.Helper()
	mustBe(t, Count(s, what), want, "Count(%.99q, %.99q)", s, what)
}

func mustReplace(t *testing.T, s, old, with string, times int, want string, wantErr api.Errno) {
	t.Helper()
	got, err := Replace(s, old, with, times)
	mustBe(t, outcome{got, err}, outcome{want, wantErr}, "Replace(%.99q, %.99q, %.99q, %d)", s, old, with, times)
}

// mustPad checks PadLeft and PadRight.
func mustPad(t *testing.T, s string, n int, fill, left, right string, wantErr api.Errno) {
	t.Helper()
	got, err := PadLeft(s, n, fill)
	mustBe(t, outcome{got, err}, outcome{left, wantErr}, "PadLeft(%.99q, %d, %.99q)", s, n, fill)
	got, err = PadRight(s, n, fill)
	mustBe(t, outcome{got, err}, outcome{right, wantErr}, "PadRight(%.99q, %d, %.99q)", s, n, fill)
}

// mustGain checks that the padding of s stands before and behind it.
func mustGain(t *testing.T, s string, n int, fill, padding string) {
	t.Helper()
	mustPad(t, s, n, fill, padding+s, s+padding, api.OK)
}

// mustNotFit checks that a text with its padding is too large.
func mustNotFit(t *testing.T, s string, n int, fill string) {
	t.Helper()
	mustPad(t, s, n, fill, "", "", api.ErrTooLarge)
}

// mustFold checks Lower and Upper.
func mustFold(t *testing.T, s, lower, upper string) {
	t.Helper()
	mustBe(t, Lower(s), lower, "Lower(%.99q)", s)
	mustBe(t, Upper(s), upper, "Upper(%.99q)", s)
}

// mustBegin checks First as Lower and as Upper.
func mustBegin(t *testing.T, s, lower, upper string) {
	t.Helper()
	mustBe(t, First(s, false), lower, "First(%.99q, false)", s)
	mustBe(t, First(s, true), upper, "First(%.99q, true)", s)
}

// mustTrim checks that the texts become this one.
func mustTrim(t *testing.T, want string, texts ...string) {
	t.Helper()
	for _, s := range texts {
		mustBe(t, Trim(s), want, "Trim(%.99q)", s)
	}
}

func mustHavePart(t *testing.T, s, sep string, i int, want string) {
	t.Helper()
	mustBe(t, Part(s, sep, i), want, "Part(%.99q, %.99q, %d)", s, sep, i)
}

// mustDivide checks all parts of s, counted from either end, and that there are no others.
func mustDivide(t *testing.T, s, sep string, want ...string) {
	t.Helper()
	for i, part := range want {
		mustHavePart(t, s, sep, i, part)
		mustHavePart(t, s, sep, i-len(want), part)
	}
	for _, i := range extremes(len(want)) {
		mustHavePart(t, s, sep, i, "")
	}
}

// extremes are numbers outside of -length to length - 1, the least and the greatest int among them.
func extremes(length int) []int {
	return []int{length, length + 1, length + 2, 2*length + 1, 1 << 31, 1 << 32, math.MaxInt - 1, math.MaxInt,
		-length - 1, -length - 2, -2*length - 1, -1 << 31, -1 << 32, math.MinInt + length, math.MinInt + 1, math.MinInt}
}

// pieces are runes of one to four bytes, and bytes that are not part of valid UTF-8: alone, in runes that are cut off, too long, surrogates or too great.
func pieces() []string {
	return []string{"", "a", "A", "z", "\x00", " ", "\n", "\x7f", "\u0080", "\u00e9", "\u00c9", "\u07ff", "\u0800", "e\u0301", "\u20ac", "\ufffd", "\uffff", "\U00010000", "\U0001f600", "\U0010ffff",
		"\x80", "\xa9", "\xbf", "\xc0", "\xc3", "\xe2", "\xe2\x82", "\xf0\x9f", "\xf0\x9f\x98", "\xff", "\xfe\xff", "\xc0\x80", "\xc1\xbf", "\xe0\x80\x80", "\xe0\x9f\xbf", "\xed\xa0\x80", "\xed\xbf\xbf", "\xf0\x80\x80\x80", "\xf4\x90\x80\x80", "\xf8\x88\x80\x80\x80"}
}

// Reading the chapter by its words.

// wordsRunes divides a text into runes.
func wordsRunes(s string) []string {
	var l []string
	for s != "" {
		_, size := utf8.DecodeRuneInString(s)
		l, s = append(l, s[:size]), s[size:]
	}
	return l
}

// wordsOccurrences returns the numbers of bytes before the positions of s, and whether each is an occurrence of what.
func wordsOccurrences(s, what string) ([]int, []bool) {
	before, occurs := []int{0}, []bool{strings.HasPrefix(s, what)}
	rest := s
	for _, r := range wordsRunes(s) {
		rest = rest[len(r):]
		before, occurs = append(before, len(s)-len(rest)), append(occurs, strings.HasPrefix(rest, what))
	}
	return before, occurs
}

func wordsSlice(s string, from, n int) string {
	l := wordsRunes(s)
	if from < 0 {
		from = max(0, from+len(l))
	}
	if from > len(l) {
		return ""
	}
	l = l[from:]
	for n >= 0 && len(l) > n {
		l = l[:len(l)-1]
	}
	for ; n < 0 && len(l) > 0; n++ {
		l = l[:len(l)-1]
	}
	return strings.Join(l, "")
}

func wordsFind(s, what string, from int) int {
	_, occurs := wordsOccurrences(s, what)
	for position, ok := range occurs {
		if ok && position >= from {
			return position
		}
	}
	return -1
}

// wordsParts returns the texts between the occurrences that Count counts.
func wordsParts(s, what string) []string {
	before, occurs := wordsOccurrences(s, what)
	var l []string
	end := 0
	for position, ok := range occurs {
		if what != "" && ok && before[position] >= end {
			l, end = append(l, s[end:before[position]]), before[position]+len(what)
		}
	}
	return append(l, s[end:])
}

// wordsFit returns a text, or ErrTooLarge if it is too large.
func wordsFit(s string) (string, api.Errno) {
	if len(s) > 32768 {
		return "", api.ErrTooLarge
	}
	return s, api.OK
}

func wordsReplace(s, old, with string, times int) (string, api.Errno) {
	l := wordsParts(s, old)
	out := l[0]
	for i, part := range l[1:] {
		if times < 0 || i < times {
			out += with + part
		} else {
			out += old + part
		}
	}
	return wordsFit(out)
}

// wordsPadding returns the runes of fill that PadLeft and PadRight add; the result may be cut off where it is too large.
func wordsPadding(s string, n int, fill string) string {
	l := wordsRunes(fill)
	out := ""
	for i := len(wordsRunes(s)); i < n && fill != "" && len(out) <= 32768; i++ {
		out += l[0]
		l = append(l[1:], l[0])
	}
	return out
}

func wordsPart(s, sep string, i int) string {
	l := wordsParts(s, sep)
	if i < 0 {
		slices.Reverse(l)
		i = -(i + 1)
	}
	if i >= len(l) {
		return ""
	}
	return l[i]
}

func mustSliceAsWords(t *testing.T, s string, from, n int) {
	t.Helper()
	mustSlice(t, s, from, n, wordsSlice(s, from, n))
}

func mustPadAsWords(t *testing.T, s string, n int, fill string) {
	t.Helper()
	padding := wordsPadding(s, n, fill)
	left, err := wordsFit(padding + s)
	right, _ := wordsFit(s + padding)
	mustPad(t, s, n, fill, left, right, err)
}

// mustSearchAsWords checks the functions that look for a text.
func mustSearchAsWords(t *testing.T, s, what string) {
	t.Helper()
	l := wordsParts(s, what)
	mustCount(t, s, what, len(l)-1)
	for from := -2; from <= len(s)+1; from++ {
		mustFind(t, s, what, from, wordsFind(s, what, from))
	}
	for i := -len(l) - 1; i <= len(l)+1; i++ {
		mustHavePart(t, s, what, i, wordsPart(s, what, i))
		for _, with := range []string{"", "x", what, what + what, "\xa9"} {
			want, err := wordsReplace(s, what, with, i)
			mustReplace(t, s, what, with, i, want, err)
		}
	}
}

// The examples

func TestExamples(t *testing.T) {
	mustSlice(t, "abcdef", -3, 2, "de")
	mustSlice(t, "abcdef", 1, -2, "bcd")
	mustCount(t, "aaaa", "aa", 2)
	mustFind(t, "abc", "", 2, 2)
	got, err := PadLeft("7", 3, "ab")
	mustBe(t, outcome{got, err}, outcome{"ab7", api.OK}, "PadLeft")
	mustHavePart(t, "a-b-c", "-", -1, "c")
}

// P9.1

func TestLength(t *testing.T) {
	mustHaveLength(t, 0, "")
	mustHaveLength(t, 1, "a", "\x00", "\x7f", "\u0080", "\u00e9", "\u07ff", "\u0800", "\u20ac", "\ufeff", "\ufffd", "\uffff", "\U00010000", "\U0001f600", "\U0010ffff", "\x80", "\xbf", "\xc0", "\xc3", "\xe2", "\xf0", "\xff")
	mustHaveLength(t, 2, "ab", "a\u00e9", "\u00e9a", "\r\n", "e\u0301", "\xc3a", "\xff\xfe", "\xc3\xc3", "\xa9\xc3", "\xc3\xa9\xc3", "\xc3\xa9\xa9", "\xe2\x82", "\xf0\x9f", "\xc0\x80", "\xc1\xbf")
	mustHaveLength(t, 3, "abc", "\u20ac\U0001f600\u00e9", "\xe2\x82a", "\xf0\x9f\x98", "\xe0\x80\x80", "\xe0\x9f\xbf", "\xed\xa0\x80", "\xed\xbf\xbf")
	mustHaveLength(t, 4, "\xf0\x80\x80\x80", "\xf4\x90\x80\x80", "\xf0\x9f\x98\xc3", "\xe2\x82\xe2\x82")
	mustHaveLength(t, 100000, strings.Repeat("a", 100000), strings.Repeat("\U0001f600", 100000), strings.Repeat("\xff", 100000), strings.Repeat("\xe2\x82", 50000))
}

func TestLengthsOfPieces(t *testing.T) {
	for _, a := range pieces() {
		for _, b := range pieces() {
			mustHaveLength(t, len(wordsRunes(a+b)), a+b)
			mustHaveLength(t, len(wordsRunes(a+b+a)), a+b+a)
		}
	}
}

func TestSliceFrom(t *testing.T) {
	mustSlice(t, "abcdef", 0, 6, "abcdef")
	mustSlice(t, "abcdef", 1, 6, "bcdef")
	mustSlice(t, "abcdef", 5, 6, "f")
	mustSlice(t, "abcdef", 6, 6, "")
	mustSlice(t, "abcdef", 7, 6, "")
	mustSlice(t, "abcdef", -1, 6, "f")
	mustSlice(t, "abcdef", -2, 6, "ef")
	mustSlice(t, "abcdef", -5, 6, "bcdef")
	for _, from := range []int{-6, -7, -8, -100, -1 << 31, -1 << 32, math.MinInt + 6, math.MinInt + 1, math.MinInt} {
		mustSlice(t, "abcdef", from, 6, "abcdef")
		mustSlice(t, "abcdef", from, 2, "ab")
		mustSlice(t, "abcdef", from, -2, "abcd")
	}
	for _, from := range []int{6, 7, 8, 100, 1 << 31, 1 << 32, math.MaxInt - 6, math.MaxInt - 1, math.MaxInt} {
		for _, n := range []int{0, 1, 6, math.MaxInt, -1, -6, math.MinInt} {
			mustSlice(t, "abcdef", from, n, "")
		}
	}
}

func TestSliceLength(t *testing.T) {
	mustSlice(t, "abcdef", 0, 0, "")
	mustSlice(t, "abcdef", 0, 1, "a")
	mustSlice(t, "abcdef", 0, 5, "abcde")
	mustSlice(t, "abcdef", 2, 0, "")
	mustSlice(t, "abcdef", 2, 1, "c")
	mustSlice(t, "abcdef", 2, 3, "cde")
	mustSlice(t, "abcdef", -4, 3, "cde")
	mustSlice(t, "abcdef", 2, -1, "cde")
	mustSlice(t, "abcdef", 2, -3, "c")
	mustSlice(t, "abcdef", -4, -3, "c")
	mustSlice(t, "abcdef", 0, -5, "a")
	for _, n := range []int{4, 5, 6, 100, 1 << 31, 1 << 32, math.MaxInt - 2, math.MaxInt - 1, math.MaxInt} {
		mustSlice(t, "abcdef", 2, n, "cdef")
		mustSlice(t, "abcdef", -4, n, "cdef")
		mustSlice(t, "abcdef", -1, n, "f")
	}
	for _, n := range []int{-4, -5, -6, -7, -100, -1 << 31, -1 << 32, math.MinInt + 2, math.MinInt + 1, math.MinInt} {
		mustSlice(t, "abcdef", 2, n, "")
		mustSlice(t, "abcdef", -4, n, "")
		mustSlice(t, "abcdef", 5, n, "")
	}
}

func TestSliceRunes(t *testing.T) {
	s := "a\u00e9\u20ac\U0001f600\xffb"
	mustSlice(t, s, 1, 1, "\u00e9")
	mustSlice(t, s, 2, 1, "\u20ac")
	mustSlice(t, s, 3, 2, "\U0001f600\xff")
	mustSlice(t, s, -3, 1, "\U0001f600")
	mustSlice(t, s, 1, -2, "\u00e9\u20ac\U0001f600")
	mustSlice(t, s, 4, -1, "\xff")
	mustSlice(t, s, -1, 1, "b")
	mustSlice(t, "\xe2\x82\xe2\x82\xac", 1, 1, "\x82")
	mustSlice(t, "\xe2\x82\xe2\x82\xac", 2, 1, "\u20ac")
	mustSlice(t, "\xc0\x80\u00e9", -2, 1, "\x80")
	mustSlice(t, "\ufffd\xff\ufffd", 1, 2, "\xff\ufffd")
	for _, from := range []int{0, 1, -1, math.MinInt, math.MaxInt} {
		for _, n := range []int{0, 1, -1, math.MinInt, math.MaxInt} {
			mustSlice(t, "", from, n, "")
		}
	}
}

func TestLengthsAndSlicesOfAllShortTexts(t *testing.T) {
	sample.Texts(4, []string{"a", "\u00e9", "\xc3", "\xa9", "\U0001f600"}, func(s string) {
		mustHaveLength(t, len(wordsRunes(s)), s)
		for from := -len(s) - 2; from <= len(s)+2; from++ {
			for n := -len(s) - 2; n <= len(s)+2; n++ {
				mustSliceAsWords(t, s, from, n)
			}
		}
	})
}

// P9.2

func TestFind(t *testing.T) {
	mustFind(t, "abcabc", "a", 0, 0)
	mustFind(t, "abcabc", "a", 1, 3)
	mustFind(t, "abcabc", "a", 3, 3)
	mustFind(t, "abcabc", "a", 4, -1)
	mustFind(t, "abcabc", "c", 0, 2)
	mustFind(t, "abcabc", "c", 5, 5)
	mustFind(t, "abcabc", "bc", 2, 4)
	mustFind(t, "abcabc", "bc", 5, -1)
	mustFind(t, "abcabc", "abcabc", 0, 0)
	mustFind(t, "abcabc", "abcabc", 1, -1)
	mustFind(t, "abcabc", "abcabca", 0, -1)
	mustFind(t, "abcabc", "ac", 0, -1)
	mustFind(t, "abcabc", "A", 0, -1)
	mustFind(t, "aaaa", "aa", 1, 1)
	mustFind(t, "aaaa", "aa", 2, 2)
	mustFind(t, "aaaa", "aa", 3, -1)
	mustFind(t, "", "a", 0, -1)
	for _, from := range []int{-1, -3, -6, -7, -1 << 31, -1 << 32, math.MinInt + 1, math.MinInt} {
		mustFind(t, "abcabc", "b", from, 1)
		mustFind(t, "abcabc", "", from, 0)
		mustFind(t, "abcabc", "d", from, -1)
	}
	for _, from := range []int{6, 7, 100, 1 << 31, 1 << 32, math.MaxInt - 1, math.MaxInt} {
		mustFind(t, "abcabc", "b", from, -1)
		mustFind(t, "abcabc", "abcabc", from, -1)
	}
}

func TestFindNothing(t *testing.T) {
	for from := range 4 {
		mustFind(t, "abc", "", from, from)
		mustFind(t, "\u00e9\U0001f600\xff", "", from, from)
	}
	mustFind(t, "", "", 0, 0)
	mustFind(t, "", "", -1, 0)
	mustFind(t, "", "", math.MinInt, 0)
	for _, from := range []int{4, 5, 100, 1 << 31, 1 << 32, math.MaxInt - 1, math.MaxInt} {
		mustFind(t, "abc", "", from, -1)
		mustFind(t, "\u00e9\U0001f600\xff", "", from, -1)
		mustFind(t, "", "", from, -1)
	}
	mustFind(t, "", "", 1, -1)
}

func TestFindRunes(t *testing.T) {
	mustFind(t, "\u00e9\u20ac\U0001f600x", "x", 0, 3)
	mustFind(t, "\u00e9\u20ac\U0001f600x", "\U0001f600", 0, 2)
	mustFind(t, "\u00e9\u20ac\U0001f600x", "\u20ac\U0001f600", 1, 1)
	mustFind(t, "\xff\xfe\xffx", "\xff", 1, 2)
	mustFind(t, "\xe2\x82x", "x", 0, 2)
	// An occurrence begins with a rune, but does not have to end with one.
	mustFind(t, "\u00e9", "\xc3", 0, 0)
	mustFind(t, "\u00e9", "\xa9", 0, -1)
	mustFind(t, "\u00e9\xa9", "\xa9", 0, 1)
	mustFind(t, "x\U0001f600", "x\xf0\x9f", 0, 0)
	mustFind(t, "\U0001f600\U0001f600", "\x80\xf0", 0, -1)
	mustFind(t, "\U0001f600\x98\x80", "\x98", 0, 1)
	mustFind(t, "\u20ac", "\x82\xac", 0, -1)
	mustFind(t, "\xe2\u20ac", "\xe2", 0, 0)
	mustFind(t, "\xe2\u20ac", "\xe2", 1, 1)
	mustFind(t, "\xff", "\ufffd", 0, -1)
	mustFind(t, "\ufffd", "\xff", 0, -1)
	mustFind(t, "\xff\ufffd", "\ufffd", 0, 1)
	mustFind(t, "\u00e9", "e\u0301", 0, -1)
}

func TestCount(t *testing.T) {
	mustCount(t, "", "a", 0)
	mustCount(t, "abc", "d", 0)
	mustCount(t, "abc", "abcd", 0)
	mustCount(t, "abc", "abc", 1)
	mustCount(t, "abc", "a", 1)
	mustCount(t, "abc", "c", 1)
	mustCount(t, "abcabc", "bc", 2)
	mustCount(t, "abcabc", "B", 0)
	mustCount(t, "aaaa", "a", 4)
	mustCount(t, "\n\na\n", "\n", 3)
	mustCount(t, "\x00a\x00", "\x00", 2)
}

func TestCountEmpty(t *testing.T) {
	for _, s := range []string{"", "a", "abc", "\u00e9", "\xff\xff"} {
		mustCount(t, s, "", 0)
	}
}

func TestCountOverlapping(t *testing.T) {
	mustCount(t, "aaa", "aa", 1)
	mustCount(t, "aaaa", "aa", 2)
	mustCount(t, "aaaaa", "aa", 2)
	mustCount(t, "ababa", "aba", 1)
	mustCount(t, "abababa", "aba", 2)
	mustCount(t, "aabaaab", "aab", 2)
	mustCount(t, "aaab", "ab", 1)
	mustCount(t, "\u00e9\u00e9\u00e9", "\u00e9\u00e9", 1)
	mustCount(t, "\xff\xff\xff", "\xff\xff", 1)
}

func TestCountRunes(t *testing.T) {
	mustCount(t, "\u00e9\u20ac\u00e9\U0001f600", "\u00e9", 2)
	mustCount(t, "\u00e9\u00e9", "\xa9", 0)
	mustCount(t, "\u00e9\u00e9", "\xc3", 2)
	mustCount(t, "\u00e9\u00e9", "\xa9\xc3", 0)
	mustCount(t, "\u00e9\xa9\u00e9\xa9", "\xa9", 2)
	mustCount(t, "\xc3\u00e9", "\xc3", 2)
	// The first occurrence ends within a rune: the rest of this rune is no occurrence, as none begins there.
	mustCount(t, "\xc3\xc3\xa9\xa9", "\xc3\xc3", 1)
	mustCount(t, "x\u00e9\xa9\xa9", "x\xc3", 1)
	mustCount(t, "\xa9\u00e9\xa9", "\xa9\xc3", 1)
	mustCount(t, "\xa9\u00e9\xa9\u00e9", "\xa9\xc3", 2)
	mustCount(t, "\xff\ufffd", "\ufffd", 1)
	mustCount(t, "\xff\ufffd", "\xff", 1)
}

func TestCountLongTexts(t *testing.T) {
	mustCount(t, strings.Repeat("a", 100000), "a", 100000)
	mustCount(t, strings.Repeat("ab", 50001), "abab", 25000)
	mustCount(t, strings.Repeat("a", 60000)+"b", strings.Repeat("a", 30000)+"b", 1)
	mustCount(t, strings.Repeat("\u00e9", 30000), "\xa9"+strings.Repeat("\u00e9", 15000), 0)
	mustFind(t, strings.Repeat("a", 60000)+"b", strings.Repeat("a", 30000)+"b", 5, 30000)
	mustFind(t, strings.Repeat("\u00e9", 100000)+"b", "b", -1, 100000)
}

// P9.3

func TestReplace(t *testing.T) {
	mustReplace(t, "abcabc", "b", "x", -1, "axcaxc", api.OK)
	mustReplace(t, "abcabc", "b", "", -1, "acac", api.OK)
	mustReplace(t, "abcabc", "bc", "xyz", -1, "axyzaxyz", api.OK)
	mustReplace(t, "abcabc", "a", "aa", -1, "aabcaabc", api.OK)
	mustReplace(t, "abcabc", "abc", "abc", -1, "abcabc", api.OK)
	mustReplace(t, "abcabc", "abcabc", "", -1, "", api.OK)
	mustReplace(t, "abcabc", "d", "x", -1, "abcabc", api.OK)
	mustReplace(t, "abcabc", "B", "x", -1, "abcabc", api.OK)
	mustReplace(t, "", "a", "x", -1, "", api.OK)
	mustReplace(t, "a", "a", "\x00", -1, "\x00", api.OK)
}

func TestReplaceEmpty(t *testing.T) {
	for _, times := range []int{-1, 0, 1, 100, math.MinInt, math.MaxInt} {
		mustReplace(t, "", "", "x", times, "", api.OK)
		mustReplace(t, "abc", "", "x", times, "abc", api.OK)
		mustReplace(t, "\u00e9\xff", "", "", times, "\u00e9\xff", api.OK)
	}
}

func TestReplaceOverlapping(t *testing.T) {
	mustReplace(t, "aaa", "aa", "b", -1, "ba", api.OK)
	mustReplace(t, "aaaaa", "aa", "b", -1, "bba", api.OK)
	mustReplace(t, "ababa", "aba", "x", -1, "xba", api.OK)
	// What has been put in is not looked at again.
	mustReplace(t, "aabb", "ab", "", -1, "ab", api.OK)
	mustReplace(t, "aaa", "a", "aaa", -1, "aaaaaaaaa", api.OK)
	mustReplace(t, "abab", "ab", "b", -1, "bb", api.OK)
}

func TestReplaceSome(t *testing.T) {
	mustReplace(t, "aaaa", "a", "bc", 0, "aaaa", api.OK)
	mustReplace(t, "aaaa", "a", "bc", 1, "bcaaa", api.OK)
	mustReplace(t, "aaaa", "a", "bc", 3, "bcbcbca", api.OK)
	mustReplace(t, "xaxaxax", "a", "", 2, "xxxax", api.OK)
	mustReplace(t, "aaaaaa", "aa", "b", 2, "bbaa", api.OK)
	for _, times := range []int{4, 5, 100, 1 << 31, 1 << 32, math.MaxInt - 1, math.MaxInt, -1, -2, -4, -5, -1 << 31, -1 << 32, math.MinInt + 1, math.MinInt} {
		mustReplace(t, "aaaa", "a", "bc", times, "bcbcbcbc", api.OK)
		mustReplace(t, "abcd", "x", "bc", times, "abcd", api.OK)
	}
}

func TestReplaceRunes(t *testing.T) {
	mustReplace(t, "\u00e9\u20ac\u00e9", "\u00e9", "\U0001f600", -1, "\U0001f600\u20ac\U0001f600", api.OK)
	mustReplace(t, "\u00e9\u00e9", "\xc3", "x", -1, "x\xa9x\xa9", api.OK)
	mustReplace(t, "\u00e9\u00e9", "\xc3", "x", 1, "x\xa9\u00e9", api.OK)
	mustReplace(t, "\u00e9\xa9", "\xa9", "x", -1, "\u00e9x", api.OK)
	mustReplace(t, "\u00e9\u00e9", "\xa9", "x", -1, "\u00e9\u00e9", api.OK)
	mustReplace(t, "\xff\ufffd\xfe", "\xff", "\xfe", -1, "\xfe\ufffd\xfe", api.OK)
	mustReplace(t, "ab", "b", "\xc3", -1, "a\xc3", api.OK)
}

func TestReplaceTooLarge(t *testing.T) {
	long := strings.Repeat("a", most)
	half := strings.Repeat("a", most/2)
	mustReplace(t, half, "a", "bb", -1, strings.Repeat("b", most), api.OK)
	mustReplace(t, half+"c", "a", "bb", -1, "", api.ErrTooLarge)
	mustReplace(t, half+"c", "a", "bb", most/2-1, strings.Repeat("b", most-2)+"ac", api.OK)
	mustReplace(t, half+"a", "a", "bb", most/2, "", api.ErrTooLarge)
	mustReplace(t, long, "a", "b", -1, strings.Repeat("b", most), api.OK)
	mustReplace(t, long, "a", "bb", 1, "", api.ErrTooLarge)
	mustReplace(t, long[1:], "a", "bb", 1, "bb"+long[2:], api.OK)
	mustReplace(t, long[1:], "a", "bb", 2, "", api.ErrTooLarge)
	mustReplace(t, "a", "a", long, -1, long, api.OK)
	mustReplace(t, "a", "a", long+"a", -1, "", api.ErrTooLarge)
	mustReplace(t, "ab", "a", long, -1, "", api.ErrTooLarge)
}

func TestReplaceTooLargeAsItIs(t *testing.T) {
	long := strings.Repeat("a", most)
	for _, times := range []int{-1, 0, 1, math.MinInt, math.MaxInt} {
		for _, old := range []string{"", "b", "ab", long + "b"} {
			mustReplace(t, long, old, "c", times, long, api.OK)
			mustReplace(t, long+"a", old, "c", times, "", api.ErrTooLarge)
		}
		mustReplace(t, long, "a", "a", times, long, api.OK)
		mustReplace(t, long+"a", "a", "a", times, "", api.ErrTooLarge)
	}
	mustReplace(t, long, "a", "bb", 0, long, api.OK)
	mustReplace(t, long+"a", "a", "", 0, "", api.ErrTooLarge)
	// Only the result is measured.
	mustReplace(t, long+"a", "a", "", 1, long, api.OK)
	mustReplace(t, long+"aa", "a", "", 1, "", api.ErrTooLarge)
	mustReplace(t, long+"aa", "aa", "b", 2, "bb"+long[2:], api.OK)
	mustReplace(t, long+long, "a", "", -1, "", api.OK)
	mustReplace(t, long+long, long+long, "x", -1, "x", api.OK)
	mustReplace(t, "abc", "d", long+long, -1, "abc", api.OK)
	mustReplace(t, "abc", "b", long+long, 0, "abc", api.OK)
}

func TestReplaceFarTooLarge(t *testing.T) {
	huge := strings.Repeat("a", 1<<20)
	mustReplace(t, huge, "a", huge, -1, "", api.ErrTooLarge)
	mustReplace(t, huge, "a", huge, 1, "", api.ErrTooLarge)
	mustReplace(t, huge, "a", huge, math.MaxInt, "", api.ErrTooLarge)
}

// P9.2, P9.3 and P9.6, on many texts

func TestSearchInAllShortTexts(t *testing.T) {
	for _, x := range []struct {
		n, m   int
		pieces []string
	}{
		{6, 3, []string{"a", "b"}},
		{5, 3, []string{"\xc3", "\xa9"}},
		{3, 2, []string{"a", "\u00e9", "\xc3", "\xa9"}},
		{3, 2, []string{"\u20ac", "\xe2\x82", "\xac", "\xe2"}},
		{3, 2, []string{"\U0001f600", "\xf0\x9f", "\x98\x80", "\ufffd"}},
	} {
		sample.Texts(x.n, x.pieces, func(s string) {
			sample.Texts(x.m, x.pieces, func(what string) { mustSearchAsWords(t, s, what) })
		})
	}
}

// randomText returns a text of at most n pieces.
func randomText(random *rand.Rand, n int, pieces []string) string {
	var b strings.Builder
	for range random.Intn(n + 1) {
		b.WriteString(pieces[random.Intn(len(pieces))])
	}
	return b.String()
}

func TestRandomTexts(t *testing.T) {
	random := rand.New(rand.NewSource(9))
	for range 3000 {
		few := []string{pieces()[random.Intn(len(pieces()))], pieces()[random.Intn(len(pieces()))], pieces()[random.Intn(len(pieces()))]}
		s := randomText(random, 12, few)
		mustHaveLength(t, len(wordsRunes(s)), s)
		mustSearchAsWords(t, s, randomText(random, 3, few))
		mustSliceAsWords(t, s, random.Intn(40)-20, random.Intn(40)-20)
		mustPadAsWords(t, s, random.Intn(40)-5, randomText(random, 4, few))
		if from := random.Intn(len(s) + 1); from < len(s) {
			// Parts of texts, which may begin and end within runes.
			mustSearchAsWords(t, s, s[from:from+1+random.Intn(min(4, len(s)-from))])
		}
	}
}

// P9.4

func TestPad(t *testing.T) {
	mustPad(t, "7", 2, "ab", "a7", "7a", api.OK)
	mustPad(t, "7", 3, "ab", "ab7", "7ab", api.OK)
	mustPad(t, "7", 4, "ab", "aba7", "7aba", api.OK)
	mustPad(t, "7", 5, "ab", "abab7", "7abab", api.OK)
	mustGain(t, "xyz", 5, "0", "00")
	mustGain(t, "", 1, "0", "0")
	mustGain(t, "", 7, "abc", "abcabca")
	mustGain(t, " ", 3, " ", "  ")
	// More of fill than is wanted.
	mustGain(t, "7", 2, "abc", "a")
	mustGain(t, "7", 3, "abc", "ab")
	mustGain(t, "7", 4, "abcdefgh", "abc")
	mustGain(t, "7", 3, strings.Repeat("ab", most), "ab")
}

func TestPadNothing(t *testing.T) {
	for _, s := range []string{"", "a", "abc", "\u00e9\U0001f600", "\xff\xe2\x82"} {
		for _, fill := range []string{"", "x", "abc", "\u00e9", "\xff"} {
			for _, n := range []int{Length(s), Length(s) - 1, 0, -1, -100, -1 << 31, -1 << 32, math.MinInt + 1, math.MinInt} {
				if n <= Length(s) {
					mustGain(t, s, n, fill, "")
				}
			}
		}
		for _, n := range extremes(Length(s)) {
			mustGain(t, s, n, "", "")
		}
	}
}

func TestPadRunes(t *testing.T) {
	mustGain(t, "\u00e9", 2, "x", "x")
	mustGain(t, "\u00e9\U0001f600", 3, "x", "x")
	mustGain(t, "\xe2\x82", 3, "x", "x")
	mustGain(t, "x", 4, "\u00e9", "\u00e9\u00e9\u00e9")
	mustGain(t, "x", 3, "\U0001f600\u20ac\u00e9", "\U0001f600\u20ac")
	mustGain(t, "x", 5, "\U0001f600\u20ac\u00e9", "\U0001f600\u20ac\u00e9\U0001f600")
	mustGain(t, "x", 4, "\xff", "\xff\xff\xff")
	mustGain(t, "x", 4, "\xe2\x82", "\xe2\x82\xe2")
	mustGain(t, "x", 3, "\xc0\u00e9", "\xc0\u00e9")
	mustGain(t, "x", 2, "\ufffd\xff", "\ufffd")
	// Only the runes of s itself count, also where s and its padding make a rune together.
	mustPad(t, "\xa9", 3, "\xc3", "\xc3\xc3\xa9", "\xa9\xc3\xc3", api.OK)
	mustPad(t, "\xc3", 2, "\xa9", "\xa9\xc3", "\u00e9", api.OK)
	// It is the runes of fill that are repeated, also where its end and its beginning make a rune together.
	mustGain(t, "x", 4, "\xa9\xc3", "\xa9\xc3\xa9")
	mustGain(t, "x", 6, "\x82\xac\xe2", "\x82\xac\xe2\x82\xac")
}

func TestPadAllShortTexts(t *testing.T) {
	l := []string{"a", "\u00e9", "\xc3", "\xa9"}
	sample.Texts(2, l, func(s string) {
		sample.Texts(3, l, func(fill string) {
			for n := -1; n <= 10; n++ {
				mustPadAsWords(t, s, n, fill)
			}
		})
	})
}

func TestPadTooLarge(t *testing.T) {
	for _, x := range []struct {
		s, fill string
	}{{"", "x"}, {"abc", "x"}, {"abc", "xyz"}, {"\u00e9", "x"}, {"\xff", "\xfe"}, {strings.Repeat("\U0001f600", most/4-1), "xy"}} {
		// Each rune of these fills has one byte.
		missing := most - len(x.s)
		n := Length(x.s) + missing
		mustGain(t, x.s, n, x.fill, strings.Repeat(x.fill, most)[:missing])
		mustGain(t, x.s, n-1, x.fill, strings.Repeat(x.fill, most)[:missing-1])
		for _, n := range []int{n + 1, n + 2, 2 * n, 1 << 31, 1 << 32, 1 << 62, math.MaxInt - 1, math.MaxInt} {
			mustNotFit(t, x.s, n, x.fill)
		}
	}
}

func TestPadTooLargeWithLongRunes(t *testing.T) {
	mustGain(t, "", most/2, "\u00e9", strings.Repeat("\u00e9", most/2))
	mustNotFit(t, "", most/2+1, "\u00e9")
	mustNotFit(t, "x", most/2+1, "\u00e9")
	mustGain(t, "xy", most/2+1, "\u00e9", strings.Repeat("\u00e9", most/2-1))
	mustNotFit(t, "xyz", most/2+2, "\u00e9")
	mustGain(t, "", most/4, "\U0001f600", strings.Repeat("\U0001f600", most/4))
	mustNotFit(t, "", most/4+1, "\U0001f600")
	mustNotFit(t, "", most, "\U0001f600")
	mustNotFit(t, "", most+1, "\U0001f600")
	// 32768 is 10922 times three bytes and one or two bytes more.
	mustGain(t, "", 21845, "x\u00e9", strings.Repeat("x\u00e9", 10922)+"x")
	mustNotFit(t, "", 21846, "x\u00e9")
	mustGain(t, "", 21845, "\u00e9x", strings.Repeat("\u00e9x", 10922)+"\u00e9")
	mustNotFit(t, "a", 21846, "\u00e9x")
	for _, n := range []int{1 << 31, 1 << 32, 1 << 61, 1 << 62, math.MaxInt/2 + 1, math.MaxInt - 1, math.MaxInt} {
		mustNotFit(t, "", n, "\u00e9")
		mustNotFit(t, "abc", n, "\U0001f600\U0001f600")
		mustNotFit(t, "abc", n, strings.Repeat("\U0001f600", most))
	}
}

func TestPadTooLargeAsItIs(t *testing.T) {
	long := strings.Repeat("a", most)
	wide := strings.Repeat("\u00e9", most/2)
	for _, n := range []int{0, 1, most / 2, -1, math.MinInt} {
		for _, fill := range []string{"", "x", "\u00e9", long + "x"} {
			mustGain(t, long, n, fill, "")
			mustGain(t, wide, n, fill, "")
			mustNotFit(t, long+"a", n, fill)
			mustNotFit(t, wide+"a", n, fill)
		}
	}
	for _, n := range []int{most, most + 1, 2 * most, math.MaxInt} {
		mustGain(t, long, n, "", "")
		mustNotFit(t, long+"a", n, "")
	}
	mustGain(t, long, most, "x", "")
	mustNotFit(t, long, most+1, "x")
	mustNotFit(t, wide, most/2+1, "x")
	mustGain(t, long[1:], most, "x", "x")
	mustNotFit(t, long[1:], most, "\u00e9")
	mustGain(t, long[2:], most-1, "\u00e9", "\u00e9")
	mustGain(t, long[2:], most-1, "\u00e9"+long, "\u00e9")
	mustNotFit(t, long[2:], most-1, "\u20ac")
}

// P9.5

func TestCase(t *testing.T) {
	mustFold(t, "", "", "")
	mustFold(t, "aZ", "az", "AZ")
	mustFold(t, "Hello, World 1", "hello, world 1", "HELLO, WORLD 1")
	mustFold(t, "abcdefghijklmnopqrstuvwxyz", "abcdefghijklmnopqrstuvwxyz", "ABCDEFGHIJKLMNOPQRSTUVWXYZ")
	mustFold(t, "ABCDEFGHIJKLMNOPQRSTUVWXYZ", "abcdefghijklmnopqrstuvwxyz", "ABCDEFGHIJKLMNOPQRSTUVWXYZ")
	mustFold(t, "@[`{\x00\x1f 09\x7f", "@[`{\x00\x1f 09\x7f", "@[`{\x00\x1f 09\x7f")
	mustFold(t, strings.Repeat("aB", most), strings.Repeat("ab", most), strings.Repeat("AB", most))
	// Letters beyond ASCII, among them those that a small or capital one of ASCII belongs to.
	for _, s := range []string{"\u00e9\u00c9", "\u0130\u0131", "\u017f\u212a", "\u00df\u1e9e", "\u0391\u03b1", "\uff21\uff41", "\U00010400\U00010428", "\u01c5"} {
		mustFold(t, s, s, s)
		mustFold(t, "aB"+s+"cD", "ab"+s+"cd", "AB"+s+"CD")
	}
	for _, s := range []string{"\xff", "\xc3", "\xe1", "\xc1", "\xe2\x82", "\xed\xa0\x80", "\xc1\xa1", "\xe0\x81\x81"} {
		mustFold(t, s, s, s)
		mustFold(t, "aB"+s+"cD", "ab"+s+"cd", "AB"+s+"CD")
	}
}

// foldPairs are the letters, each capital one before the small one.
const foldPairs = "AaBbCcDdEeFfGgHhIiJjKkLlMmNnOoPpQqRrSsTtUuVvWwXxYyZz"

// otherLetter returns the small letter of a capital one and the reverse; any other byte stays.
func otherLetter(c string) (letter string, isCapital, isSmall bool) {
	i := strings.Index(foldPairs, c)
	if i < 0 {
		return c, false, false
	}
	return foldPairs[i^1 : i^1+1], i%2 == 0, i%2 == 1
}

func TestCaseOfEachByte(t *testing.T) {
	for c := range 256 {
		b := string([]byte{byte(c)})
		lower, upper := b, b
		letter, isCapital, isSmall := otherLetter(b)
		if isCapital {
			lower = letter
		}
		if isSmall {
			upper = letter
		}
		for _, rest := range []string{"", "a", "A", "\u00e9", "\xa9", "\x82\xac"} {
			mustBegin(t, b+rest, lower+rest, upper+rest)
		}
		mustFold(t, b, lower, upper)
		mustFold(t, b+b, lower+lower, upper+upper)
		mustFold(t, "x"+b+"Y\xff", "x"+lower+"y\xff", "X"+upper+"Y\xff")
	}
}

func TestFirst(t *testing.T) {
	mustBegin(t, "", "", "")
	mustBegin(t, "a", "a", "A")
	mustBegin(t, "A", "a", "A")
	mustBegin(t, "abC", "abC", "AbC")
	mustBegin(t, "ABc", "aBc", "ABc")
	mustBegin(t, "zZ", "zZ", "ZZ")
	mustBegin(t, " ab", " ab", " ab")
	mustBegin(t, " AB", " AB", " AB")
	mustBegin(t, "1aA", "1aA", "1aA")
	mustBegin(t, "\u00e9a", "\u00e9a", "\u00e9a")
	mustBegin(t, "\u00c9A", "\u00c9A", "\u00c9A")
	mustBegin(t, "\xffa", "\xffa", "\xffa")
	mustBegin(t, "a\xff\u00e9A", "a\xff\u00e9A", "A\xff\u00e9A")
	mustBegin(t, "ss\u00df", "ss\u00df", "Ss\u00df")
}

func TestTrim(t *testing.T) {
	mustTrim(t, "", "", " ", "\t", "\n", "\r", "  ", " \t\r\n", "\r\n\r\n", strings.Repeat(" \n", most))
	mustTrim(t, "a", "a", " a", "a ", " a ", "\ta\t", "\na\n", "\ra\r", "\t\n\r a", "a \r\n\t", "\r\n \ta\t \n\r", strings.Repeat("\t\n", most)+"a"+strings.Repeat(" \r", most))
	mustTrim(t, "a \t\r\nb", "a \t\r\nb", " a \t\r\nb ", "\n\na \t\r\nb\n\n")
	mustTrim(t, "\u00e9\xff", " \u00e9\xff ", "\t\u00e9\xff\n")
	mustTrim(t, "\xff", "\xff", " \xff", "\xff\r", "\n\xff\t")
	mustTrim(t, "\xc3", " \xc3 ")
	// Only the blanks at the ends go, and what is no blank keeps those within.
	mustTrim(t, "\v a \v", "\v a \v", " \v a \v ")
}

func TestTrimEachByte(t *testing.T) {
	for c := range 256 {
		b := string([]byte{byte(c)})
		if c == 9 || c == 10 || c == 13 || c == 32 {
			mustTrim(t, "", b, b+b, " "+b+" ")
			mustTrim(t, "x"+b+"y", b+"x"+b+"y"+b, "x"+b+"y"+b+b, b+b+"x"+b+"y")
			continue
		}
		mustTrim(t, b, b, " "+b, b+"\n", "\t"+b+"\r")
		mustTrim(t, b+"x"+b, b+"x"+b, " "+b+"x"+b+" ")
		mustTrim(t, b+" "+b, b+" "+b, "\r"+b+" "+b+"\r")
	}
}

func TestTrimOtherBlanks(t *testing.T) {
	for _, blank := range []string{"\v", "\f", "\x00", "\x85", "\xa0", "\u0085", "\u00a0", "\u1680", "\u2003", "\u2028", "\u2029", "\u3000", "\ufeff"} {
		mustTrim(t, blank, blank, " "+blank+" ")
		mustTrim(t, blank+"a"+blank, blank+"a"+blank, "\n"+blank+"a"+blank+"\n")
		mustTrim(t, blank+" a "+blank, blank+" a "+blank)
	}
}

// P9.6

func TestPart(t *testing.T) {
	mustDivide(t, "a-b-c", "-", "a", "b", "c")
	mustDivide(t, "abc", "-", "abc")
	mustDivide(t, "abc", "b", "a", "c")
	mustDivide(t, "a--b", "--", "a", "b")
	mustDivide(t, "a, b,c", ", ", "a", "b,c")
	mustDivide(t, "a- b", "-", "a", " b")
	mustDivide(t, "aXb", "x", "aXb")
	mustDivide(t, "a\nb\n", "\n", "a", "b", "")
	mustDivide(t, "abcabc", "abcd", "abcabc")
}

func TestEmptyParts(t *testing.T) {
	mustDivide(t, "", "-", "")
	mustDivide(t, "-", "-", "", "")
	mustDivide(t, "--", "-", "", "", "")
	mustDivide(t, "-a", "-", "", "a")
	mustDivide(t, "a-", "-", "a", "")
	mustDivide(t, "a--b", "-", "a", "", "b")
	mustDivide(t, "abc", "abc", "", "")
}

func TestPartOverlapping(t *testing.T) {
	mustDivide(t, "aaa", "aa", "", "a")
	mustDivide(t, "aaaaa", "aa", "", "", "a")
	mustDivide(t, "ababa", "aba", "", "ba")
	mustDivide(t, "---", "--", "", "-")
	mustDivide(t, "x---y", "--", "x", "-y")
}

func TestPartWithoutSeparator(t *testing.T) {
	for _, s := range []string{"", "a", "abc", "a-b", "\u00e9\xff", strings.Repeat("ab", most)} {
		mustDivide(t, s, "", s)
	}
}

func TestPartRunes(t *testing.T) {
	mustDivide(t, "a\u00e9b\u00e9c", "\u00e9", "a", "b", "c")
	mustDivide(t, "\u20ac-\U0001f600-\xff", "-", "\u20ac", "\U0001f600", "\xff")
	mustDivide(t, "a\xffb\xff", "\xff", "a", "b", "")
	mustDivide(t, "\u00e9\u00e9", "\xc3", "", "\xa9", "\xa9")
	mustDivide(t, "\u00e9\u00e9", "\xa9", "\u00e9\u00e9")
	mustDivide(t, "\u00e9\xa9x", "\xa9", "\u00e9", "x")
	mustDivide(t, "x\u00e9\xa9", "x\xc3", "", "\xa9\xa9")
	mustDivide(t, "\xff\ufffd\xff", "\ufffd", "\xff", "\xff")
}

func TestManyParts(t *testing.T) {
	var want []string
	for i := range 300 {
		want = append(want, strings.Repeat("x", i%7))
	}
	mustDivide(t, strings.Join(want, "-"), "-", want...)
	long := strings.Repeat("ab", 100000)
	mustHavePart(t, long, "b", 99999, "a")
	mustHavePart(t, long, "b", 100000, "")
	mustHavePart(t, long, "b", -2, "a")
	mustHavePart(t, long, "b", -100001, "a")
	mustHavePart(t, long, "b", -100002, "")
}

// A part may have any size, as only results with an error are limited.
func TestNoOtherLimits(t *testing.T) {
	long := strings.Repeat("a", 3*most)
	mustSlice(t, long, 1, -1, long[2:])
	mustDivide(t, long+"-"+long, "-", long, long)
	mustTrim(t, long, " "+long+" ")
	mustBegin(t, long, long, "A"+long[1:])
	mustCount(t, long, "a", 3*most)
}
