package num

import (
	"math"
	"math/big"
	"testing"
)

const (
	most  = math.MaxInt
	least = math.MinInt
)

type call func(a, b int) (int, bool)

type example struct {
	name string
	f    call
	a, b int
	want int
	ok   bool
}

func checkAll(t *testing.T, promise string, l []example) {
	t.Helper()
	for _, x := range l {
		if n, ok := x.f(x.a, x.b); n != x.want || ok != x.ok {
			t.Errorf("%s: %s(%d, %d): %d, %v; want %d, %v", promise, x.name, x.a, x.b, n, ok, x.want, x.ok)
		}
	}
}

// numbers to be paired: small ones of both signs, and those about the edges
// of 32 and 64 bits and about their roots.
func numbers() []int {
	var l []int
	for n := -12; n <= 12; n++ {
		l = append(l, n)
	}
	for _, middle := range []int{1 << 31, 1 << 32, 3037000499, 1 << 61, 1 << 62, most / 3, most / 2, 6074001000} {
		for d := -2; d <= 2; d++ {
			l = append(l, middle+d, -middle-d)
		}
	}
	for d := range 4 {
		l = append(l, most-d, least+d)
	}
	return l
}

func eachPair(f func(a, b int)) {
	l := numbers()
	for _, a := range l {
		for _, b := range l {
			f(a, b)
		}
	}
}

// checkExact holds a call against the number that it should answer, which may
// be beyond an int, or nil if there is none.
func checkExact(t *testing.T, name string, f call, a, b int, exact *big.Int) {
	t.Helper()
	want, ok := 0, false
	if exact != nil && exact.IsInt64() {
		want, ok = int(exact.Int64()), true
	}
	if n, got := f(a, b); n != want || got != ok {
		t.Errorf("%s(%d, %d): %d, %v; want %d, %v", name, a, b, n, got, want, ok)
	}
}

func wide(n int) *big.Int { return big.NewInt(int64(n)) }

func TestP1_1Ordinary(t *testing.T) {
	checkAll(t, "P1.1", []example{
		{"Add", Add, 2, 3, 5, true},
		{"Add", Add, -2, 3, 1, true},
		{"Add", Add, -2, -3, -5, true},
		{"Add", Add, 0, 0, 0, true},
		{"Sub", Sub, 2, 3, -1, true},
		{"Sub", Sub, 3, 2, 1, true},
		{"Sub", Sub, -2, -3, 1, true},
		{"Mul", Mul, 3, 4, 12, true},
		{"Mul", Mul, -3, 4, -12, true},
		{"Mul", Mul, 3, -4, -12, true},
		{"Mul", Mul, -3, -4, 12, true},
		{"Mul", Mul, 0, 7, 0, true},
		{"Mul", Mul, 7, 0, 0, true},
	})
}

func TestP1_1Edges(t *testing.T) {
	checkAll(t, "P1.1", []example{
		{"Add", Add, most - 1, 1, most, true},
		{"Add", Add, most, 1, 0, false},
		{"Add", Add, 1, most, 0, false},
		{"Add", Add, least + 1, -1, least, true},
		{"Add", Add, least, -1, 0, false},
		{"Add", Add, least, least, 0, false},
		{"Add", Add, most, most, 0, false},
		{"Add", Add, most, least, -1, true},
		{"Add", Add, least, 0, least, true},
		{"Sub", Sub, least + 1, 1, least, true},
		{"Sub", Sub, least, 1, 0, false},
		{"Sub", Sub, most - 1, -1, most, true},
		{"Sub", Sub, most, -1, 0, false},
		{"Sub", Sub, 0, least, 0, false},
		{"Sub", Sub, -1, least, most, true},
		{"Sub", Sub, 0, most, -most, true},
		{"Sub", Sub, -1, most, least, true},
		{"Sub", Sub, -2, most, 0, false},
		{"Sub", Sub, least, least, 0, true},
		{"Mul", Mul, least, 1, least, true},
		{"Mul", Mul, 1, least, least, true},
		{"Mul", Mul, least, -1, 0, false},
		{"Mul", Mul, -1, least, 0, false},
		{"Mul", Mul, most, -1, -most, true},
		{"Mul", Mul, -1, most, -most, true},
		{"Mul", Mul, least, 0, 0, true},
		{"Mul", Mul, 0, least, 0, true},
		{"Mul", Mul, 1 << 31, 1 << 32, 0, false},
		{"Mul", Mul, -1 << 31, 1 << 32, least, true},
		{"Mul", Mul, 1 << 31, -1 << 32, least, true},
		{"Mul", Mul, -1 << 31, -1 << 32, 0, false},
		{"Mul", Mul, 1 << 32, 1 << 32, 0, false},
		{"Mul", Mul, 3037000499, 3037000499, 9223372030926249001, true},
		{"Mul", Mul, 3037000500, 3037000500, 0, false},
		{"Mul", Mul, 7, most / 7, most, true},
		{"Mul", Mul, 7, most/7 + 1, 0, false},
		{"Mul", Mul, most, 2, 0, false},
		{"Mul", Mul, least, 2, 0, false},
		{"Mul", Mul, least, least, 0, false},
		{"Mul", Mul, most, most, 0, false},
	})
}

func TestP1_1Exact(t *testing.T) {
	eachPair(func(a, b int) {
		checkExact(t, "P1.1: Add", Add, a, b, new(big.Int).Add(wide(a), wide(b)))
		checkExact(t, "P1.1: Sub", Sub, a, b, new(big.Int).Sub(wide(a), wide(b)))
		checkExact(t, "P1.1: Mul", Mul, a, b, new(big.Int).Mul(wide(a), wide(b)))
	})
}

func TestP1_2Examples(t *testing.T) {
	checkAll(t, "P1.2", []example{
		{"Floor", Floor, -7, 2, -4, true},
		{"Ceil", Ceil, -7, 2, -3, true},
		{"Quo", Quo, -7, 2, -3, true},
		{"Rem", Rem, -7, 2, -1, true},
	})
}

func TestP1_2Signs(t *testing.T) {
	for _, x := range []struct{ a, b, quo, rem, floor, ceil int }{
		{7, 2, 3, 1, 3, 4},
		{-7, 2, -3, -1, -4, -3},
		{7, -2, -3, 1, -4, -3},
		{-7, -2, 3, -1, 3, 4},
		{6, 2, 3, 0, 3, 3},
		{-6, 2, -3, 0, -3, -3},
		{6, -2, -3, 0, -3, -3},
		{-6, -2, 3, 0, 3, 3},
		{1, 2, 0, 1, 0, 1},
		{-1, 2, 0, -1, -1, 0},
		{1, -2, 0, 1, -1, 0},
		{-1, -2, 0, -1, 0, 1},
		{0, 5, 0, 0, 0, 0},
		{0, -5, 0, 0, 0, 0},
		{least, 1, least, 0, least, least},
		{least + 1, -1, most, 0, most, most},
		{most, -1, -most, 0, -most, -most},
		{least, 2, least / 2, 0, least / 2, least / 2},
		{least, -2, 1 << 62, 0, 1 << 62, 1 << 62},
		{least, least, 1, 0, 1, 1},
		{most, least, 0, most, -1, 0},
		{least, most, -1, -1, -2, -1},
		{1, least, 0, 1, -1, 0},
		{-1, least, 0, -1, 0, 1},
	} {
		checkAll(t, "P1.2", []example{
			{"Quo", Quo, x.a, x.b, x.quo, true},
			{"Rem", Rem, x.a, x.b, x.rem, true},
			{"Floor", Floor, x.a, x.b, x.floor, true},
			{"Ceil", Ceil, x.a, x.b, x.ceil, true},
		})
	}
}

func TestP1_2Refused(t *testing.T) {
	refused := [][2]int{{0, 0}, {7, 0}, {-7, 0}, {most, 0}, {least, 0}, {least, -1}}
	for _, x := range refused {
		a, b := x[0], x[1]
		checkAll(t, "P1.2", []example{
			{"Quo", Quo, a, b, 0, false},
			{"Rem", Rem, a, b, 0, false},
			{"Floor", Floor, a, b, 0, false},
			{"Ceil", Ceil, a, b, 0, false},
		})
	}
}

// exactQuotients of a and b: cut, what is left, rounded down, rounded up. The
// rounded ones are told by holding the cut one against the fraction, so that
// no rule of signs is shared with what is tested.
func exactQuotients(a, b int) (quo, rem, floor, ceil *big.Int) {
	if b == 0 || a == least && b == -1 {
		return nil, nil, nil, nil
	}
	quo, rem = new(big.Int).QuoRem(wide(a), wide(b), new(big.Int))
	ratio := new(big.Rat).SetFrac(wide(a), wide(b))
	one := big.NewInt(1)
	floor, ceil = new(big.Int).Set(quo), new(big.Int).Set(quo)
	switch new(big.Rat).SetInt(quo).Cmp(ratio) {
	case 1:
		floor.Sub(floor, one)
	case -1:
		ceil.Add(ceil, one)
	}
	return quo, rem, floor, ceil
}

func TestP1_2Exact(t *testing.T) {
	eachPair(func(a, b int) {
		quo, rem, floor, ceil := exactQuotients(a, b)
		checkExact(t, "P1.2: Quo", Quo, a, b, quo)
		checkExact(t, "P1.2: Rem", Rem, a, b, rem)
		checkExact(t, "P1.2: Floor", Floor, a, b, floor)
		checkExact(t, "P1.2: Ceil", Ceil, a, b, ceil)
	})
}

func TestP1_3(t *testing.T) {
	eachPair(func(a, b int) {
		quo, ok := Quo(a, b)
		rem, okRem := Rem(a, b)
		floor, okFloor := Floor(a, b)
		ceil, okCeil := Ceil(a, b)
		if okRem != ok || okFloor != ok || okCeil != ok {
			t.Errorf("P1.3: %d, %d: some are told, some aren't: %v, %v, %v, %v", a, b, ok, okRem, okFloor, okCeil)
		}
		if !ok {
			return
		}
		// Held against each other without a difference, which could wrap round.
		if floor > ceil || floor != ceil && floor+1 != ceil {
			t.Errorf("P1.3: %d, %d: Floor %d, Ceil %d", a, b, floor, ceil)
		}
		if quo != floor && quo != ceil {
			t.Errorf("P1.3: %d, %d: Quo %d is neither Floor %d nor Ceil %d", a, b, quo, floor, ceil)
		}
		if rem < 0 && a >= 0 || rem > 0 && a <= 0 {
			t.Errorf("P1.3: %d, %d: Rem %d hasn't a's sign", a, b, rem)
		}
		if wide(rem).CmpAbs(wide(b)) >= 0 {
			t.Errorf("P1.3: %d, %d: Rem %d isn't nearer to 0 than b", a, b, rem)
		}
		if (rem == 0) != (floor == ceil) {
			t.Errorf("P1.3: %d, %d: Rem %d, but Floor %d and Ceil %d", a, b, rem, floor, ceil)
		}
	})
}
