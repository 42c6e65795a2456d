package number

import (
	"fmt"
	"math"
	"math/big"
	"math/rand"
	"regexp"
	"strings"
	"testing"

	"transclude/api"
	"transclude/sample"
)

// most is MaxNumber, written anew so that the tests fix its value.
const most = 1000000000

// num returns a number.
func num(num, den int) api.Number { return api.Number{Num: num, Den: den} }

// mustBe checks what a call, described by its format, has returned.
func mustBe[T comparable](t *testing.T, got, want T, format string, args ...any) {
	t.Helper()
	if got != want {
		t.Errorf("%s = %v, want %v", fmt.Sprintf(format, args...), got, want)
	}
}

// must checks the result and the error of a call.
func must[T comparable](t *testing.T, got T, err api.Errno, want T, wantErr api.Errno, format string, args ...any) {
	t.Helper()
	if got != want || err != wantErr {
		t.Errorf("%s = %v, %v, want %v, %v", fmt.Sprintf(format, args...), got, err, want, wantErr)
	}
}

func mustBeValid(t *testing.T, n api.Number, want bool) {
	t.Helper()
	mustBe(t, Valid(n), want, "Valid(%v)", n)
}

func mustMake(t *testing.T, x, y int, want api.Number, wantErr api.Errno) {
	t.Helper()
	got, err := Make(x, y)
	must(t, got, err, want, wantErr, "Make(%d, %d)", x, y)
}

func mustParse(t *testing.T, s string, want api.Number) {
	t.Helper()
	got, err := Parse(s)
	must(t, got, err, want, api.OK, "Parse(%q)", s)
}

// mustNotParse checks that the texts have an error.
func mustNotParse(t *testing.T, wantErr api.Errno, texts ...string) {
	t.Helper()
	for _, s := range texts {
		got, err := Parse(s)
		must(t, got, err, api.Number{}, wantErr, "Parse(%.99q)", s)
	}
}

func mustFormat(t *testing.T, n api.Number, want string) {
	t.Helper()
	mustBe(t, Format(n), want, "Format(%v)", n)
}

func mustFix(t *testing.T, n api.Number, places int, want string, wantErr api.Errno) {
	t.Helper()
	got, err := Fixed(n, places)
	must(t, got, err, want, wantErr, "Fixed(%v, %d)", n, places)
}

func mustFloor(t *testing.T, n api.Number, want int, wantErr api.Errno) {
	t.Helper()
	got, err := Floor(n)
	must(t, got, err, want, wantErr, "Floor(%v)", n)
}

func mustRound(t *testing.T, n api.Number, places int, want api.Number, wantErr api.Errno) {
	t.Helper()
	got, err := Round(n, places)
	must(t, got, err, want, wantErr, "Round(%v, %d)", n, places)
}

// operations are the functions that compute a number from two.
func operations() map[string]func(a, b api.Number) (api.Number, api.Errno) {
	return map[string]func(a, b api.Number) (api.Number, api.Errno){"Add": Add, "Sub": Sub, "Mul": Mul, "Div": Div, "Mod": Mod}
}

func mustGive(t *testing.T, name string, a, b, want api.Number, wantErr api.Errno) {
	t.Helper()
	got, err := operations()[name](a, b)
	must(t, got, err, want, wantErr, "%s(%v, %v)", name, a, b)
}

// mustFail checks the error of an operation.
func mustFail(t *testing.T, name string, a, b api.Number, wantErr api.Errno) {
	t.Helper()
	mustGive(t, name, a, b, api.Number{}, wantErr)
}

func mustCompare(t *testing.T, a, b api.Number, want int) {
	t.Helper()
	mustBe(t, Compare(a, b), want, "Compare(%v, %v)", a, b)
}

// invalid returns numbers that are not valid, for each reason.
func invalid() []api.Number {
	return []api.Number{
		{}, num(1, 0), num(-1, 0), num(most, 0), num(math.MinInt, 0), num(math.MaxInt, 0),
		num(0, -1), num(1, -1), num(-1, -1), num(1, -most), num(1, math.MinInt), num(1, math.MinInt+1),
		num(0, 2), num(0, most), num(2, 2), num(2, 4), num(-6, 9), num(most, 2), num(-most, most), num(999999999, 3),
		num(most+1, 1), num(-most-1, 1), num(most+2, 2), num(math.MaxInt, 1), num(math.MinInt, 1), num(math.MinInt, 3), num(math.MaxInt, math.MinInt),
		num(1, most+1), num(0, most+1), num(1, math.MaxInt), num(math.MaxInt, math.MaxInt), num(math.MinInt, math.MinInt), num(math.MinInt, math.MaxInt),
	}
}

// parts are numerators and denominators that numbers are made of.
func parts() []int {
	return []int{1, 2, 3, 7, 10, 512, 31623, 500000000, 999999937, 999999999, most}
}

// valid returns valid numbers of many sizes and both signs.
func valid() []api.Number {
	l := []api.Number{num(0, 1)}
	for _, x := range parts() {
		for _, y := range parts() {
			if n := num(x, y); wordsValid(n) {
				l = append(l, n, num(-x, y))
			}
		}
	}
	return l
}

// randomNumber returns a valid number; small and large ones are equally frequent.
func randomNumber(random *rand.Rand) api.Number {
	part := func() int { return random.Intn(1 + []int{3, 20, 1000, 40000, most}[random.Intn(5)]) }
	n, _ := Make(part()*(1-2*random.Intn(2)), max(1, part()))
	return n
}

// exact returns the value of a number.
func exact(n api.Number) *big.Rat { return big.NewRat(int64(n.Num), int64(n.Den)) }

// wordsValid reads the definition of a valid number by its words.
func wordsValid(n api.Number) bool {
	if n.Den < 1 || n.Den > most || n.Num < -most || n.Num > most {
		return false
	}
	x, y := big.NewInt(int64(n.Num)), big.NewInt(int64(n.Den))
	return new(big.Int).GCD(nil, nil, x.Abs(x), y).Cmp(big.NewInt(1)) == 0
}

// wordsFit returns the valid form of a value, or ErrOverflow.
func wordsFit(x *big.Rat) (api.Number, api.Errno) {
	// A Rat has no common divisors, and its denominator is positive.
	limit := big.NewInt(most)
	if x.Num().CmpAbs(limit) > 0 || x.Denom().Cmp(limit) > 0 {
		return api.Number{}, api.ErrOverflow
	}
	return num(int(x.Num().Int64()), int(x.Denom().Int64())), api.OK
}

// wordsFloor returns the largest integer that is at most x.
func wordsFloor(x *big.Rat) *big.Int {
	// Div rounds down, as denominators are positive.
	return new(big.Int).Div(x.Num(), x.Denom())
}

// wordsGive reads P6.2 for valid numbers by its words.
func wordsGive(name string, a, b api.Number) (api.Number, api.Errno) {
	x, y, out := exact(a), exact(b), new(big.Rat)
	if (name == "Div" || name == "Mod") && y.Sign() == 0 {
		return api.Number{}, api.ErrZero
	}
	switch name {
	case "Add":
		out.Add(x, y)
	case "Sub":
		out.Sub(x, y)
	case "Mul":
		out.Mul(x, y)
	case "Div":
		out.Quo(x, y)
	case "Mod":
		quotient := new(big.Rat).SetInt(wordsFloor(out.Quo(x, y)))
		out.Sub(x, quotient.Mul(quotient, y))
	}
	return wordsFit(out)
}

// wordsRound returns the multiple of 1/10^places that is nearest to n, and the one farther from 0 if there are two.
func wordsRound(n api.Number, places int) *big.Rat {
	step := big.NewRat(1, 1)
	for range places {
		step.Quo(step, big.NewRat(10, 1))
	}
	x := exact(n)
	below := new(big.Rat).SetInt(wordsFloor(new(big.Rat).Quo(x, step)))
	below.Mul(below, step)
	above := new(big.Rat).Add(below, step)
	switch new(big.Rat).Sub(x, below).Cmp(new(big.Rat).Sub(above, x)) {
	case -1:
		return below
	case 1:
		return above
	}
	if x.Sign() < 0 {
		return below
	}
	return above
}

// wordsFormat reads P6.5 for valid numbers by its words.
func wordsFormat(n api.Number) string {
	if digits, finite := exact(n).FloatPrec(); finite && digits <= 9 {
		return exact(n).FloatString(digits)
	}
	return fmt.Sprintf("%d/%d", n.Num, n.Den)
}

// P6.1

func TestValid(t *testing.T) {
	for _, n := range []api.Number{num(0, 1), num(1, 1), num(-1, 1), num(1, 2), num(-3, 2), num(4, 9),
		num(most, 1), num(-most, 1), num(1, most), num(-1, most), num(most, 999999999), num(-999999999, most), num(999999937, 999999929)} {
		mustBeValid(t, n, true)
	}
	for _, n := range invalid() {
		mustBeValid(t, n, false)
	}
}

func TestValidOfSmallParts(t *testing.T) {
	for x := -40; x <= 40; x++ {
		for y := -5; y <= 40; y++ {
			want := y >= 1
			for d := 2; d <= 40; d++ {
				want = want && (x%d != 0 || y%d != 0)
			}
			mustBeValid(t, num(x, y), want)
		}
	}
}

func TestValidOfLargeParts(t *testing.T) {
	for _, y := range append(parts(), 0, -1, most+1, most+3) {
		for _, x := range append(parts(), 0, -1, -2, -most, -most-1, most+1, most+3) {
			mustBeValid(t, num(x, y), wordsValid(num(x, y)))
		}
	}
}

func TestMake(t *testing.T) {
	mustMake(t, 1, 2, num(1, 2), api.OK)
	mustMake(t, 4, 6, num(2, 3), api.OK)
	mustMake(t, -4, 6, num(-2, 3), api.OK)
	mustMake(t, 4, -6, num(-2, 3), api.OK)
	mustMake(t, -4, -6, num(2, 3), api.OK)
	mustMake(t, 6, 3, num(2, 1), api.OK)
	mustMake(t, 3, -3, num(-1, 1), api.OK)
	for _, y := range []int{1, -1, 2, -7, most, -most} {
		mustMake(t, 0, y, num(0, 1), api.OK)
	}
	mustMake(t, most, most, num(1, 1), api.OK)
	mustMake(t, most, -most, num(-1, 1), api.OK)
	mustMake(t, -most, -most, num(1, 1), api.OK)
	mustMake(t, most, 1, num(most, 1), api.OK)
	mustMake(t, most, -1, num(-most, 1), api.OK)
	mustMake(t, 1, -most, num(-1, most), api.OK)
	mustMake(t, -most, 999999999, num(-most, 999999999), api.OK)
	mustMake(t, 999999999, -999999998, num(-999999999, 999999998), api.OK)
	mustMake(t, most, 2, num(500000000, 1), api.OK)
}

func TestMakeErrorsInOrder(t *testing.T) {
	for _, x := range []int{0, 1, -1, most, -most} {
		mustMake(t, x, 0, api.Number{}, api.ErrZero)
	}
	for _, x := range []int{most + 1, -most - 1, math.MaxInt, math.MinInt} {
		for _, y := range []int{0, 1, -1, most, x, -x} {
			mustMake(t, x, y, api.Number{}, api.ErrRange)
			if y != 0 {
				mustMake(t, y, x, api.Number{}, api.ErrRange)
			}
		}
		mustMake(t, 0, x, api.Number{}, api.ErrRange)
	}
}

func TestMakeOfAllParts(t *testing.T) {
	for _, x := range append(parts(), 0) {
		for _, y := range parts() {
			for _, signs := range [][2]int{{1, 1}, {1, -1}, {-1, 1}, {-1, -1}} {
				want, _ := wordsFit(big.NewRat(int64(signs[0]*x), int64(signs[1]*y)))
				mustMake(t, signs[0]*x, signs[1]*y, want, api.OK)
			}
		}
	}
}

// P6.2

func TestAddAndSub(t *testing.T) {
	mustGive(t, "Add", num(1, 2), num(1, 3), num(5, 6), api.OK)
	mustGive(t, "Add", num(1, 6), num(1, 3), num(1, 2), api.OK)
	mustGive(t, "Add", num(1, 2), num(-1, 2), num(0, 1), api.OK)
	mustGive(t, "Add", num(0, 1), num(-3, 7), num(-3, 7), api.OK)
	mustGive(t, "Add", num(999999999, 1), num(1, 1), num(most, 1), api.OK)
	mustGive(t, "Add", num(most, 1), num(-1, 1), num(999999999, 1), api.OK)
	mustGive(t, "Add", num(1, most), num(999999999, most), num(1, 1), api.OK)
	mustGive(t, "Add", num(most, 999999999), num(999999998, 999999999), num(2, 1), api.OK)
	mustGive(t, "Sub", num(1, 2), num(1, 3), num(1, 6), api.OK)
	mustGive(t, "Sub", num(1, 3), num(1, 2), num(-1, 6), api.OK)
	mustGive(t, "Sub", num(-2, 3), num(-2, 3), num(0, 1), api.OK)
	mustGive(t, "Sub", num(-most, 1), num(-most, 1), num(0, 1), api.OK)
	mustGive(t, "Sub", num(0, 1), num(most, 1), num(-most, 1), api.OK)
}

func TestMulAndDiv(t *testing.T) {
	mustGive(t, "Mul", num(2, 3), num(9, 4), num(3, 2), api.OK)
	mustGive(t, "Mul", num(2, 3), num(-3, 2), num(-1, 1), api.OK)
	mustGive(t, "Mul", num(-1, 2), num(-1, 2), num(1, 4), api.OK)
	mustGive(t, "Mul", num(-5, 7), num(0, 1), num(0, 1), api.OK)
	mustGive(t, "Mul", num(most, 1), num(1, most), num(1, 1), api.OK)
	mustGive(t, "Mul", num(most, 999999999), num(999999999, most), num(1, 1), api.OK)
	mustGive(t, "Mul", num(100000, 1), num(10000, 1), num(most, 1), api.OK)
	mustGive(t, "Mul", num(1, 100000), num(-1, 10000), num(-1, most), api.OK)
	mustGive(t, "Div", num(1, 2), num(1, 4), num(2, 1), api.OK)
	mustGive(t, "Div", num(1, 2), num(-1, 4), num(-2, 1), api.OK)
	mustGive(t, "Div", num(-1, 2), num(-3, 4), num(2, 3), api.OK)
	mustGive(t, "Div", num(0, 1), num(-3, 4), num(0, 1), api.OK)
	mustGive(t, "Div", num(most, 1), num(-most, 1), num(-1, 1), api.OK)
	mustGive(t, "Div", num(1, most), num(1, most), num(1, 1), api.OK)
	mustGive(t, "Div", num(1, 1), num(most, 1), num(1, most), api.OK)
	mustGive(t, "Div", num(-1, 1), num(1, most), num(-most, 1), api.OK)
	mustGive(t, "Div", num(most, 999999999), num(most, 999999997), num(999999997, 999999999), api.OK)
}

func TestMod(t *testing.T) {
	for _, x := range [][3]int{{7, 3, 1}, {-7, 3, 2}, {7, -3, -2}, {-7, -3, -1}, {6, 3, 0}, {-6, 3, 0}, {6, -3, 0}, {-6, -3, 0}, {0, 3, 0}, {0, -3, 0},
		{2, 3, 2}, {-2, 3, 1}, {2, -3, -1}, {-2, -3, -2}, {-1, most, 999999999}, {1, -most, -999999999}, {most, 999999999, 1}} {
		mustGive(t, "Mod", num(x[0], 1), num(x[1], 1), num(x[2], 1), api.OK)
	}
	mustGive(t, "Mod", num(7, 2), num(2, 1), num(3, 2), api.OK)
	mustGive(t, "Mod", num(-7, 2), num(2, 1), num(1, 2), api.OK)
	mustGive(t, "Mod", num(7, 2), num(-2, 1), num(-1, 2), api.OK)
	mustGive(t, "Mod", num(1, 2), num(1, 3), num(1, 6), api.OK)
	mustGive(t, "Mod", num(-1, 2), num(1, 3), num(1, 6), api.OK)
	mustGive(t, "Mod", num(3, 4), num(1, 4), num(0, 1), api.OK)
}

func TestModWithoutQuotient(t *testing.T) {
	mustGive(t, "Mod", num(most, 1), num(1, most), num(0, 1), api.OK)
	mustGive(t, "Mod", num(-most, 1), num(1, 999999999), num(0, 1), api.OK)
	mustGive(t, "Mod", num(most, 1), num(2, 999999999), num(0, 1), api.OK)
	mustGive(t, "Mod", num(999999999, 1), num(2, 999999999), num(1, 999999999), api.OK)
	mustGive(t, "Mod", num(-999999999, 1), num(-2, 999999999), num(-1, 999999999), api.OK)
	mustGive(t, "Mod", num(999999999, most), num(most, 999999999), num(999999999, most), api.OK)
	mustFail(t, "Div", num(most, 1), num(1, most), api.ErrOverflow)
	mustFail(t, "Div", num(999999999, 1), num(2, 999999999), api.ErrOverflow)
	mustFail(t, "Div", num(999999999, most), num(most, 999999999), api.ErrOverflow)
}

func TestOverflow(t *testing.T) {
	mustFail(t, "Add", num(most, 1), num(1, 1), api.ErrOverflow)
	mustFail(t, "Add", num(most, 1), num(1, 2), api.ErrOverflow)
	mustFail(t, "Add", num(-most, 1), num(-most, 1), api.ErrOverflow)
	mustFail(t, "Add", num(1, most), num(1, 999999999), api.ErrOverflow)
	mustFail(t, "Add", num(most, 999999999), num(most, 999999997), api.ErrOverflow)
	mustFail(t, "Sub", num(-most, 1), num(1, 1), api.ErrOverflow)
	mustFail(t, "Sub", num(most, 1), num(-most, 1), api.ErrOverflow)
	mustFail(t, "Sub", num(1, most), num(1, 999999999), api.ErrOverflow)
	mustFail(t, "Mul", num(100000, 1), num(100000, 1), api.ErrOverflow)
	mustFail(t, "Mul", num(-most, 1), num(most, 1), api.ErrOverflow)
	mustFail(t, "Mul", num(1, most), num(1, 2), api.ErrOverflow)
	mustFail(t, "Mul", num(1, most), num(-1, most), api.ErrOverflow)
	mustFail(t, "Mul", num(most, 999999999), num(most, 999999999), api.ErrOverflow)
	mustFail(t, "Div", num(1, most), num(2, 1), api.ErrOverflow)
	mustFail(t, "Div", num(most, 1), num(1, 2), api.ErrOverflow)
	mustFail(t, "Div", num(-most, 1), num(1, most), api.ErrOverflow)
	mustFail(t, "Mod", num(-1, most), num(1, 999999999), api.ErrOverflow)
	mustFail(t, "Mod", num(1, most), num(-1, 999999999), api.ErrOverflow)
	mustFail(t, "Mod", num(1, 999999999), num(1, most), api.ErrOverflow)
}

func TestOperationErrorsInOrder(t *testing.T) {
	for name := range operations() {
		for _, n := range invalid() {
			for _, other := range append(invalid(), num(0, 1), num(1, 2), num(most, 1), num(-most, 1)) {
				mustFail(t, name, n, other, api.ErrForm)
				mustFail(t, name, other, n, api.ErrForm)
			}
		}
	}
	for _, n := range valid() {
		mustFail(t, "Div", n, num(0, 1), api.ErrZero)
		mustFail(t, "Mod", n, num(0, 1), api.ErrZero)
	}
}

// mustGiveAsWords compares all operations on two numbers with P6.2.
func mustGiveAsWords(t *testing.T, a, b api.Number) {
	t.Helper()
	for name := range operations() {
		want, wantErr := wordsGive(name, a, b)
		mustGive(t, name, a, b, want, wantErr)
	}
}

func TestOperationsOnAllPairs(t *testing.T) {
	l := valid()
	for _, a := range l {
		for _, b := range l {
			mustGiveAsWords(t, a, b)
		}
	}
}

func TestOperationsOnSmallNumbers(t *testing.T) {
	var l []api.Number
	for x := -7; x <= 7; x++ {
		for y := 1; y <= 6; y++ {
			if n := num(x, y); wordsValid(n) {
				l = append(l, n)
			}
		}
	}
	for _, a := range l {
		for _, b := range l {
			mustGiveAsWords(t, a, b)
		}
	}
}

func TestOperationsOnRandomNumbers(t *testing.T) {
	random := rand.New(rand.NewSource(6))
	for range 20000 {
		mustGiveAsWords(t, randomNumber(random), randomNumber(random))
	}
}

// P6.3

func TestFloor(t *testing.T) {
	for _, x := range [][3]int{{0, 1, 0}, {4, 1, 4}, {-4, 1, -4}, {7, 2, 3}, {-7, 2, -4}, {1, 2, 0}, {-1, 2, -1}, {5, 3, 1}, {-5, 3, -2}, {-1, most, -1}, {1, most, 0},
		{most, 1, most}, {-most, 1, -most}, {most, 999999999, 1}, {-most, 999999999, -2}, {999999999, most, 0}, {-999999999, 2, -500000000}} {
		mustFloor(t, num(x[0], x[1]), x[2], api.OK)
	}
	for _, n := range invalid() {
		mustFloor(t, n, 0, api.ErrForm)
	}
	for _, n := range valid() {
		mustFloor(t, n, int(wordsFloor(exact(n)).Int64()), api.OK)
	}
}

func TestRound(t *testing.T) {
	mustRound(t, num(2, 3), 0, num(1, 1), api.OK)
	mustRound(t, num(2, 3), 2, num(67, 100), api.OK)
	mustRound(t, num(-2, 3), 2, num(-67, 100), api.OK)
	mustRound(t, num(1, 3), 9, num(333333333, most), api.OK)
	mustRound(t, num(-1, 3), 0, num(0, 1), api.OK)
	mustRound(t, num(0, 1), 9, num(0, 1), api.OK)
	mustRound(t, num(5, 1), 3, num(5, 1), api.OK)
	mustRound(t, num(1, 5), 1, num(1, 5), api.OK)
	mustRound(t, num(999, 1000), 2, num(1, 1), api.OK)
	mustRound(t, num(1, most), 9, num(1, most), api.OK)
	mustRound(t, num(-1, most), 8, num(0, 1), api.OK)
	mustRound(t, num(1, 999999999), 9, num(1, most), api.OK)
	for places := range 10 {
		mustRound(t, num(most, 1), places, num(most, 1), api.OK)
		mustRound(t, num(-most, 1), places, num(-most, 1), api.OK)
	}
}

func TestRoundTies(t *testing.T) {
	for _, x := range [][2]int{{1, 1}, {3, 2}, {5, 3}, {7, 4}, {999999999, 500000000}} {
		mustRound(t, num(x[0], 2), 0, num(x[1], 1), api.OK)
		mustRound(t, num(-x[0], 2), 0, num(-x[1], 1), api.OK)
	}
	mustRound(t, num(-1, 8), 2, num(-13, 100), api.OK)
	mustRound(t, num(1, 8), 2, num(13, 100), api.OK)
	mustRound(t, num(1, 4), 1, num(3, 10), api.OK)
	mustRound(t, num(1, 20), 1, num(1, 10), api.OK)
	mustRound(t, num(-1, 20), 1, num(-1, 10), api.OK)
	// The nearest numbers on both sides of a tie.
	mustRound(t, num(499999999, 999999999), 0, num(0, 1), api.OK)
	mustRound(t, num(-499999999, 999999999), 0, num(0, 1), api.OK)
	mustRound(t, num(500000000, 999999999), 0, num(1, 1), api.OK)
	mustRound(t, num(-500000000, 999999999), 0, num(-1, 1), api.OK)
	mustRound(t, num(1, 512), 8, num(195313, 100000000), api.OK)
	mustRound(t, num(1, 1024), 9, num(976563, most), api.OK)
	mustRound(t, num(-1, 1024), 9, num(-976563, most), api.OK)
}

func TestRoundErrorsInOrder(t *testing.T) {
	outside := []int{-1, 10, 11, 64, -9, math.MinInt, math.MaxInt}
	for _, n := range invalid() {
		for _, places := range append(outside, 0, 1, 9) {
			mustRound(t, n, places, api.Number{}, api.ErrForm)
			mustFix(t, n, places, "", api.ErrForm)
		}
	}
	for _, n := range []api.Number{num(0, 1), num(1, 2), num(most, 1), num(999999999, 7)} {
		for _, places := range outside {
			mustRound(t, n, places, api.Number{}, api.ErrRange)
			mustFix(t, n, places, "", api.ErrRange)
		}
	}
	mustRound(t, num(999999999, 7), 9, api.Number{}, api.ErrOverflow)
	mustRound(t, num(-999999999, 7), 1, api.Number{}, api.ErrOverflow)
	mustRound(t, num(4, 3), 9, api.Number{}, api.ErrOverflow)
	mustRound(t, num(-4, 3), 9, api.Number{}, api.ErrOverflow)
	mustRound(t, num(4, 3), 8, num(133333333, 100000000), api.OK)
	mustRound(t, num(9, 8), 9, num(9, 8), api.OK)
	mustRound(t, num(999999999, most), 9, num(999999999, most), api.OK)
}

// mustRoundAsWords compares Round and Fixed with P6.3 and P6.5.
func mustRoundAsWords(t *testing.T, n api.Number, places int) {
	t.Helper()
	x := wordsRound(n, places)
	want, wantErr := wordsFit(x)
	mustRound(t, n, places, want, wantErr)
	text := ""
	if wantErr == api.OK {
		text = x.FloatString(places)
	}
	mustFix(t, n, places, text, wantErr)
}

func TestRoundAsWords(t *testing.T) {
	l := valid()
	random := rand.New(rand.NewSource(6))
	for range 2000 {
		l = append(l, randomNumber(random))
	}
	for _, n := range l {
		for places := range 10 {
			mustRoundAsWords(t, n, places)
		}
	}
}

// P6.4

func TestParse(t *testing.T) {
	for s, want := range map[string]api.Number{
		"0": num(0, 1), "-0": num(0, 1), "+0": num(0, 1), "00": num(0, 1), "-0.0": num(0, 1), ".0": num(0, 1), "-.000000000": num(0, 1),
		"7": num(7, 1), "+7": num(7, 1), "-7": num(-7, 1), "007": num(7, 1), "000000000": num(0, 1), "999999999": num(999999999, 1), "-999999999": num(-999999999, 1),
		"1.5": num(3, 2), "-1.5": num(-3, 2), "+1.5": num(3, 2), "01.50": num(3, 2), "12.125": num(97, 8), "0.3": num(3, 10), "1.000000000": num(1, 1), "3.14": num(157, 50),
		".5": num(1, 2), "-.50": num(-1, 2), "+.25": num(1, 4), ".000000001": num(1, most), "-0.000000001": num(-1, most), "0.999999999": num(999999999, most),
		"999999999.0": num(999999999, 1), "999999999.000000000": num(999999999, 1), "99999999.9": num(999999999, 10), "000000001.000000000": num(1, 1), "0.500000000": num(1, 2),
		"500000000.0": num(500000000, 1), "1.953125": num(125, 64), "333333333.5": num(666666667, 2), "-499999999.5": num(-999999999, 2),
	} {
		mustParse(t, s, want)
	}
}

func TestParseOverflow(t *testing.T) {
	mustNotParse(t, api.ErrOverflow, "999999999.999999999", "999999999.5", "-999999999.1", "1.000000001", "-1.000000001", "+10.00000001", "500000000.5", "-500000000.5", "333333333.4", "2.333333333")
}

func TestParseOtherForms(t *testing.T) {
	mustNotParse(t, api.ErrSyntax, "", ".", "+", "-", "+.", "-.", "1.", "-1.", "+1.", "999999999.", "..", ".1.", "1..2", "1.2.3", ".1.2", "1.2.",
		"--1", "++1", "+-1", "-+1", "1-", "1+", "1-2", "-.-1", "1.-2", "1.+2", ".-5", ".+5",
		" 1", "1 ", " ", "1 2", "- 1", "1 .5", "1. 5", "\t1", "1\n", "\n", "1\r",
		"1e3", "1E3", ".e1", "0x1", "0b1", "0o7", "1_0", "1,5", "1/2", "1'0", "a", "inf", "Inf", "NaN", "-inf", "\u0661", "\u00bd", "\uff11", "1\u00a0", "\x00", "\xff", "1\xff", "\xff1", "1\x00")
}

func TestParseEachByte(t *testing.T) {
	for c := range 256 {
		b := string([]byte{byte(c)})
		if strings.Contains("0123456789", b) {
			mustParse(t, b, num(c-'0', 1))
			continue
		}
		mustNotParse(t, api.ErrSyntax, b, b+b, "1"+b, "1.5"+b, "-"+b, "."+b)
		if b != "." {
			mustNotParse(t, api.ErrSyntax, "1"+b+"1", "1"+b+".5", "1."+b+"5")
		}
		if !strings.Contains("+-.", b) {
			mustNotParse(t, api.ErrSyntax, b+"1", b+".5", b+"1.5", "-"+b+"1")
		}
	}
}

var form = regexp.MustCompile(`\A[+-]?([0-9]{1,9}(\.[0-9]{1,9})?|\.[0-9]{1,9})\z`)

// wordsParse reads P6.4 by its words.
func wordsParse(s string) (api.Number, api.Errno) {
	if !form.MatchString(s) {
		return api.Number{}, api.ErrSyntax
	}
	x, ok := new(big.Rat).SetString(s)
	if !ok {
		panic("no number: " + s)
	}
	return wordsFit(x)
}

func mustParseAsWords(t *testing.T, s string) {
	t.Helper()
	want, wantErr := wordsParse(s)
	got, err := Parse(s)
	must(t, got, err, want, wantErr, "Parse(%.99q)", s)
}

func TestParseLengths(t *testing.T) {
	for _, sign := range []string{"", "+", "-"} {
		for _, digit := range []string{"0", "1", "9"} {
			for whole := range 12 {
				mustParseAsWords(t, sign+strings.Repeat(digit, whole))
				for part := range 12 {
					mustParseAsWords(t, sign+strings.Repeat(digit, whole)+"."+strings.Repeat("0", part))
					mustParseAsWords(t, sign+strings.Repeat("0", whole)+"."+strings.Repeat(digit, part))
					mustParseAsWords(t, sign+strings.Repeat(digit, whole)+"."+strings.Repeat("5", part))
				}
			}
		}
	}
	mustNotParse(t, api.ErrSyntax, "1234567890", "0000000001", "0.1234567890", "0.1000000000", ".0000000000", "1234567890.5", "-0000000000", "9999999999.9999999999")
}

func TestParseAllShortTexts(t *testing.T) {
	sample.Texts(6, []string{"+", "-", ".", "0", "5", "999", " ", "\xff"}, func(s string) { mustParseAsWords(t, s) })
}

func TestParseLongTexts(t *testing.T) {
	for _, s := range []string{"1", "0", ".", "-", "+", " ", "1.", "\xff"} {
		mustNotParse(t, api.ErrSyntax, strings.Repeat(s, 1<<20), "1."+strings.Repeat(s, 1<<20))
	}
}

// P6.5

func TestFormat(t *testing.T) {
	mustFormat(t, num(0, 1), "0")
	mustFormat(t, num(5, 1), "5")
	mustFormat(t, num(-5, 1), "-5")
	mustFormat(t, num(10, 1), "10")
	mustFormat(t, num(-700, 1), "-700")
	mustFormat(t, num(most, 1), "1000000000")
	mustFormat(t, num(-most, 1), "-1000000000")
	mustFormat(t, num(1, 2), "0.5")
	mustFormat(t, num(-1, 2), "-0.5")
	mustFormat(t, num(-1, 8), "-0.125")
	mustFormat(t, num(201, 2), "100.5")
	mustFormat(t, num(1, 10), "0.1")
	mustFormat(t, num(101, 100), "1.01")
	mustFormat(t, num(-1001, 100), "-10.01")
	mustFormat(t, num(1, most), "0.000000001")
	mustFormat(t, num(-1, most), "-0.000000001")
	mustFormat(t, num(999999999, most), "0.999999999")
	mustFormat(t, num(1, 512), "0.001953125")
	mustFormat(t, num(1, 1953125), "0.000000512")
	mustFormat(t, num(999999999, 2), "499999999.5")
	mustFormat(t, num(999999999, 512), "1953124.998046875")
	mustFormat(t, num(-999999999, 1953125), "-511.999999488")
	mustFormat(t, num(1, 500000000), "0.000000002")
	for _, n := range invalid() {
		mustFormat(t, n, "")
	}
}

func TestFormatFractions(t *testing.T) {
	mustFormat(t, num(1, 3), "1/3")
	mustFormat(t, num(-1, 3), "-1/3")
	mustFormat(t, num(22, 7), "22/7")
	mustFormat(t, num(1, 6), "1/6")
	mustFormat(t, num(1, 30), "1/30")
	mustFormat(t, num(1, 1024), "1/1024")
	mustFormat(t, num(-5, 1024), "-5/1024")
	mustFormat(t, num(1, 9765625), "1/9765625")
	mustFormat(t, num(999999999, 1024), "999999999/1024")
	mustFormat(t, num(1, 999999999), "1/999999999")
	mustFormat(t, num(-most, 999999999), "-1000000000/999999999")
	mustFormat(t, num(most, 3), "1000000000/3")
	mustFormat(t, num(1, 536870912), "1/536870912")
}

func TestFormatOfAllDenominators(t *testing.T) {
	dens := parts()
	for twos := 1; twos <= most; twos *= 2 {
		for fives := twos; fives <= most; fives *= 5 {
			dens = append(dens, fives, min(most, 3*fives))
		}
	}
	for y := range 2000 {
		dens = append(dens, y+1)
	}
	for _, y := range dens {
		for _, x := range []int{0, 1, -1, 3, 7, -11, 1001, most - 1, most, -most} {
			if n := num(x, y); wordsValid(n) {
				mustFormat(t, n, wordsFormat(n))
			}
		}
	}
}

func TestParseOfFormat(t *testing.T) {
	random := rand.New(rand.NewSource(6))
	count := 0
	for range 20000 {
		n := randomNumber(random)
		s := Format(n)
		mustFormat(t, n, wordsFormat(n))
		// Parse takes neither fractions nor more than 9 digits before the point.
		if !strings.Contains(s, "/") && n.Num != most && n.Num != -most {
			mustParse(t, s, n)
			count++
		}
	}
	if count < 2000 {
		t.Errorf("only %d numbers have a decimal notation", count)
	}
}

func TestFixed(t *testing.T) {
	mustFix(t, num(2, 3), 2, "0.67", api.OK)
	mustFix(t, num(-2, 3), 2, "-0.67", api.OK)
	mustFix(t, num(-5, 2), 0, "-3", api.OK)
	mustFix(t, num(5, 2), 0, "3", api.OK)
	mustFix(t, num(5, 1), 0, "5", api.OK)
	mustFix(t, num(5, 1), 1, "5.0", api.OK)
	mustFix(t, num(-120, 1), 3, "-120.000", api.OK)
	mustFix(t, num(1, 2), 9, "0.500000000", api.OK)
	mustFix(t, num(201, 2), 1, "100.5", api.OK)
	mustFix(t, num(1, 20), 2, "0.05", api.OK)
	mustFix(t, num(1001, 1000), 2, "1.00", api.OK)
	mustFix(t, num(-1999, 1000), 2, "-2.00", api.OK)
	mustFix(t, num(1, most), 9, "0.000000001", api.OK)
	mustFix(t, num(most, 1), 0, "1000000000", api.OK)
	mustFix(t, num(-most, 1), 9, "-1000000000.000000000", api.OK)
	mustFix(t, num(999999999, 7), 9, "", api.ErrOverflow)
	mustFix(t, num(-4, 3), 9, "", api.ErrOverflow)
}

func TestFixedZero(t *testing.T) {
	for places, want := range []string{"0", "0.0", "0.00", "0.000", "0.0000", "0.00000", "0.000000", "0.0000000", "0.00000000", "0.000000000"} {
		mustFix(t, num(0, 1), places, want, api.OK)
		if places < 9 {
			mustFix(t, num(1, most), places, want, api.OK)
			mustFix(t, num(-1, most), places, want, api.OK)
		}
	}
	mustFix(t, num(-49, 100), 0, "0", api.OK)
	mustFix(t, num(-1, 2), 0, "-1", api.OK)
	mustFix(t, num(-499999999, most), 0, "0", api.OK)
}

// P6.6

func TestCompare(t *testing.T) {
	ordered := []api.Number{num(-most, 1), num(-999999999, 1), num(-3, 2), num(-most, 999999999), num(-1, 1), num(-999999999, most), num(-2, 3), num(-1, 2), num(-1, most),
		num(0, 1), num(1, most), num(1, 999999999), num(1, 3), num(1, 2), num(2, 3), num(999999998, 999999999), num(999999999, most), num(1, 1), num(most, 999999999), num(3, 2), num(999999999, 1), num(most, 1)}
	for i, a := range ordered {
		for j, b := range ordered {
			mustCompare(t, a, b, max(-1, min(1, i-j)))
		}
	}
}

func TestCompareOfInvalidNumbers(t *testing.T) {
	for _, n := range invalid() {
		for _, other := range append(invalid(), num(0, 1), num(1, 2), num(-most, 1), num(most, 1), num(1, most)) {
			mustCompare(t, n, other, 0)
			mustCompare(t, other, n, 0)
		}
	}
}

func TestCompareOfRandomNumbers(t *testing.T) {
	random := rand.New(rand.NewSource(6))
	for range 20000 {
		a, b := randomNumber(random), randomNumber(random)
		mustCompare(t, a, b, exact(a).Cmp(exact(b)))
	}
}

func TestCompareOfAllPairs(t *testing.T) {
	l := valid()
	for _, a := range l {
		for _, b := range l {
			mustCompare(t, a, b, exact(a).Cmp(exact(b)))
		}
	}
}
