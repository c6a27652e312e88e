package tests

import (
	"math"
	"slices"
	"testing"

	"loop.example/localglobal/impl"
)

func TestSymbolOf(t *testing.T) {
	for _, place := range append(somePlaces(), 101, 1009) {
		judge := symbolJudge(place)
		for _, a := range append(firstNumbers(), max(place, 1), -max(place, 1)) {
			for _, b := range append(secondNumbers(), max(place, 1), -max(place, 1)) {
				if got, want := impl.SymbolOf(a, b, place), judge(a, b); got != want {
					t.Errorf("SymbolOf(%d, %d, %d) is %d, not %d", a, b, place, got, want)
				}
			}
		}
	}
}

func TestSymbolOfAtEachPrime(t *testing.T) {
	for _, p := range primesTo(3, numberMax) {
		judge := symbolJudge(p)
		for _, c := range [][2]int{{p, p}, {-p, p}, {p, 2}, {-1, p}, {p, 3}, {15, -p}, {p, 4999}, {5000, p}, {7, 11}, {p, p - 1}} {
			if got, want := impl.SymbolOf(c[0], c[1], p), judge(c[0], c[1]); got != want {
				t.Errorf("SymbolOf(%d, %d, %d) is %d, not %d", c[0], c[1], p, got, want)
			}
		}
	}
}

func TestSymbolOfEachNumber(t *testing.T) {
	for _, place := range []int{0, 2, 3, 5, 7, 13, 71} {
		judge := symbolJudge(place)
		for a := range allNumbers() {
			for _, b := range []int{-1, 2, 3, -6, 5, 7, -56, 4096, 2187, 4900, 1690, -5000} {
				want := 0
				if a != 0 {
					want = judge(a, b)
				}
				if got := impl.SymbolOf(a, b, place); got != want {
					t.Errorf("SymbolOf(%d, %d, %d) is %d, not %d", a, b, place, got, want)
				}
			}
		}
	}
}

// The symbol is 1 exactly where the equation is solved up to each power of the prime; one that is great enough for the valuations of both tells it.
func TestSymbolOfUpToPowers(t *testing.T) {
	for _, c := range []struct{ p, greatestFactor, power int }{{2, 8, 256}, {3, 9, 243}, {5, 5, 125}, {7, 7, 343}, {11, 11, 121}, {13, 1, 169}} {
		numbers := []int{}
		for _, unit := range []int{-7, -5, -3, -2, -1, 1, 2, 3, 5, 15} {
			for factor := 1; factor <= c.greatestFactor; factor *= c.p {
				if !divides(c.p, unit) {
					numbers = append(numbers, unit*factor)
				}
			}
		}
		for _, a := range numbers {
			for _, b := range numbers {
				if got, want := impl.SymbolOf(a, b, c.p) == 1, solvedFar(a, b, c.p, c.power); got != want {
					t.Errorf("SymbolOf(%d, %d, %d) is 1: %t, solved up to %d: %t", a, b, c.p, got, c.power, want)
				}
			}
		}
	}
}

// expectNoSymbol checks all functions of two numbers for two integers of which one is no number, or 0.
func expectNoSymbol(t *testing.T, a int, b int) {
	t.Helper()
	for _, place := range []int{0, 2, 3, 5, 4999} {
		if got := impl.SymbolOf(a, b, place); got != 0 {
			t.Errorf("SymbolOf(%d, %d, %d) is %d", a, b, place, got)
		}
	}
	if got := impl.SymbolPlaces(a, b); len(got) != 0 {
		t.Errorf("SymbolPlaces(%d, %d) is %v", a, b, got)
	}
	if got := impl.SymbolSign(a, b); got != 0 {
		t.Errorf("SymbolSign(%d, %d) is %d", a, b, got)
	}
	if impl.SymbolSplit(a, b) {
		t.Errorf("SymbolSplit(%d, %d) holds", a, b)
	}
	for _, c := range [][2]int{{1, 1}, {-1, -1}, {a, b}, {b, a}} {
		if impl.SymbolSame(a, b, c[0], c[1]) || impl.SymbolSame(c[0], c[1], a, b) {
			t.Errorf("SymbolSame holds for %d, %d and %v", a, b, c)
		}
	}
	for _, v := range [][3]int{{0, 0, 1}, {1, 0, 0}, {0, 1, 0}, {1, 1, 0}, {0, 0, 0}} {
		if impl.SymbolSolved(a, b, v[0], v[1], v[2]) {
			t.Errorf("SymbolSolved(%d, %d) holds for %v", a, b, v)
		}
	}
	for _, p := range []int{2, 3, 31} {
		if got := impl.SymbolWays(a, b, p); got != -1 {
			t.Errorf("SymbolWays(%d, %d, %d) is %d", a, b, p, got)
		}
		if impl.SymbolModulo(a, b, p, 1) {
			t.Errorf("SymbolModulo(%d, %d, %d, 1) holds", a, b, p)
		}
	}
}

func TestSymbolsOfNoNumbers(t *testing.T) {
	for _, n := range noFactors() {
		for _, other := range []int{1, -1, 4, -5000, n, -n, 0} {
			expectNoSymbol(t, n, other)
			expectNoSymbol(t, other, n)
		}
		for _, place := range []int{0, 2, 3, 4999, 1, -1, 4} {
			if got := impl.SymbolNorm(n, place); got != -1 {
				t.Errorf("SymbolNorm(%d, %d) is %d", n, place, got)
			}
			if b, ok := impl.SymbolFind(n, place); ok || b != 0 {
				t.Errorf("SymbolFind(%d, %d) is %d, %t", n, place, b, ok)
			}
		}
	}
}

func TestSymbolsAtNoPlaces(t *testing.T) {
	for _, place := range noPlaces() {
		for _, a := range []int{1, -1, 2, -3, 5000, 0, 5001} {
			if got := impl.SymbolOf(a, -1, place); got != 0 {
				t.Errorf("SymbolOf(%d, -1, %d) is %d", a, place, got)
			}
			if got := impl.SymbolNorm(a, place); got != -1 {
				t.Errorf("SymbolNorm(%d, %d) is %d", a, place, got)
			}
			if b, ok := impl.SymbolFind(a, place); ok || b != 0 {
				t.Errorf("SymbolFind(%d, %d) is %d, %t", a, place, b, ok)
			}
		}
	}
}

func TestSymbolPlaces(t *testing.T) {
	symbol := symbolTable()
	eachPair(func(a int, b int) {
		want := []int{}
		sign := 1
		for _, place := range placesOfBoth(a, b) {
			sign *= symbol(a, b, place)
			if symbol(a, b, place) == -1 {
				want = append(want, place)
			}
		}
		got := impl.SymbolPlaces(a, b)
		if !slices.Equal(got, want) {
			t.Errorf("SymbolPlaces(%d, %d) is %v, not %v", a, b, got, want)
		}
		if impl.SymbolSign(a, b) != sign {
			t.Errorf("SymbolSign(%d, %d) is %d, not %d", a, b, impl.SymbolSign(a, b), sign)
		}
		if impl.SymbolSplit(a, b) != (len(want) == 0) {
			t.Errorf("SymbolSplit(%d, %d) is %t, and the places are %v", a, b, impl.SymbolSplit(a, b), want)
		}
		for _, c := range [][2]int{{1, 1}, {-1, -1}, {-1, 3}, {2, 5}, {2, 3}, {b, -1}} {
			if got := impl.SymbolSame(a, b, c[0], c[1]); got != slices.Equal(want, impl.SymbolPlaces(c[0], c[1])) {
				t.Errorf("SymbolSame(%d, %d, %d, %d) is %t", a, b, c[0], c[1], got)
			}
		}
	})
}

func TestSymbolPlacesOfGreatPrimes(t *testing.T) {
	for _, c := range []struct {
		a, b int
		want []int
	}{
		{-1, -4999, []int{0, 4999}},
		{4999, 4987, []int{2, 4987}},
		{4993, 4993, []int{}},
		{-4999, 4999, []int{}},
		{-5000, -5000, []int{0, 2}},
	} {
		if got := impl.SymbolPlaces(c.a, c.b); !slices.Equal(got, c.want) {
			t.Errorf("SymbolPlaces(%d, %d) is %v, not %v", c.a, c.b, got, c.want)
		}
	}
}

// An equation whose numbers are cores is solved, if at all, by integers that are not great.
func TestSymbolSplitByTrying(t *testing.T) {
	for a := -30; a <= 30; a++ {
		for b := -30; b <= 30; b++ {
			if a == 0 || b == 0 {
				continue
			}
			if got, want := impl.SymbolSplit(a, b), solvedNear(a, b, 40); got != want {
				t.Errorf("SymbolSplit(%d, %d) is %t", a, b, got)
			}
		}
	}
}

func TestSymbolSolved(t *testing.T) {
	for _, a := range []int{-5000, -7, -3, -1, 1, 2, 3, 4, 5, 8, 5000} {
		for _, b := range []int{-4999, -5, -2, -1, 1, 2, 3, 6, 9, 12, 4999} {
			for x := -5; x <= 5; x++ {
				for y := -5; y <= 5; y++ {
					for z := -9; z <= 9; z++ {
						want := (x != 0 || y != 0 || z != 0) && z*z-a*x*x == b*y*y
						if got := impl.SymbolSolved(a, b, x, y, z); got != want {
							t.Errorf("SymbolSolved(%d, %d, %d, %d, %d) is %t", a, b, x, y, z, got)
						}
					}
				}
			}
		}
	}
}

func TestSymbolSolvedLimits(t *testing.T) {
	for _, c := range []struct {
		a, b, x, y, z int
		want          bool
	}{
		{1, -1, 5000, 5000, 0, true},
		{1, -1, -5000, 5000, 0, true},
		{1, -1, 5001, 5001, 0, false},
		{1, -1, -5001, 5000, 0, false},
		{1, 2, 5000, 0, -5000, true},
		{1, 2, 5001, 0, 5001, false},
		{2, 1, 0, 5001, 5001, false},
		{2, 1, 0, -5000, 5000, true},
		{5000, -5000, 4999, -4999, 0, true},
		{-5000, -5000, 5000, 5000, 0, false},
		{2, 2, 1 << 32, 1 << 32, 1 << 33, false},
		{4, 1, 1 << 32, 0, 0, false},
		{1, 1, 1 << 32, 1 << 32, 0, false},
		{1, 1, math.MinInt, math.MinInt, math.MinInt, false},
		{1, 1, math.MinInt, 0, 0, false},
		{1, 1, 0, math.MinInt, 0, false},
		{1, 1, 0, 0, math.MinInt, false},
		{1, 1, 0, 0, 0, false},
		{-5000, 4999, 0, 0, 0, false},
	} {
		if got := impl.SymbolSolved(c.a, c.b, c.x, c.y, c.z); got != c.want {
			t.Errorf("SymbolSolved(%d, %d, %d, %d, %d) is %t", c.a, c.b, c.x, c.y, c.z, got)
		}
	}
}

func TestSymbolModulo(t *testing.T) {
	numbers := []int{-5000, -4096, -243, -96, -75, -32, -18, -12, -9, -7, -6, -5, -3, -2, -1, 1, 2, 3, 4, 5, 6, 7, 8, 10, 11, 14, 16, 24, 27, 48, 50, 54, 64, 81, 98, 2048, 2187, 4913, 4999, 5000}
	for _, p := range []int{2, 3, 5, 7} {
		power := 1
		for k := 1; power*p <= greatestPower; k++ {
			power *= p
			for _, a := range numbers {
				for _, b := range numbers {
					// At the greatest powers trying all is slow.
					if power > 16 && !divides(3, a-b) {
						continue
					}
					if got, want := impl.SymbolModulo(a, b, p, k), solvedFar(a, b, p, power); got != want {
						t.Errorf("SymbolModulo(%d, %d, %d, %d) is %t", a, b, p, k, got)
					}
				}
			}
		}
	}
}

func TestSymbolModuloByTrying(t *testing.T) {
	for _, c := range []struct{ p, k, power int }{{2, 1, 2}, {2, 2, 4}, {2, 3, 8}, {3, 1, 3}, {3, 2, 9}, {5, 1, 5}} {
		for a := -18; a <= 18; a++ {
			for b := -18; b <= 18; b++ {
				if a == 0 || b == 0 {
					continue
				}
				if got, want := impl.SymbolModulo(a, b, c.p, c.k), solvedUpTo(a, b, c.p, c.power) > 0; got != want {
					t.Errorf("SymbolModulo(%d, %d, %d, %d) is %t", a, b, c.p, c.k, got)
				}
			}
		}
	}
}

func TestSymbolModuloLimits(t *testing.T) {
	for _, c := range []struct{ p, greatest int }{{2, 5}, {3, 3}, {5, 2}, {7, 1}, {11, 1}, {13, 1}, {29, 1}, {31, 1}, {37, 0}, {41, 0}, {4999, 0}} {
		for k := 1; k <= 5; k++ {
			// The triple 1, 0, 1 solves this equation exactly.
			if got := impl.SymbolModulo(1, 5, c.p, k); got != (k <= c.greatest) {
				t.Errorf("SymbolModulo(1, 5, %d, %d) is %t", c.p, k, got)
			}
		}
		for _, k := range noExponents() {
			if impl.SymbolModulo(1, 5, c.p, k) {
				t.Errorf("SymbolModulo(1, 5, %d, %d) holds", c.p, k)
			}
		}
	}
	for _, p := range noPrimes() {
		for _, k := range []int{1, 2, 0, -1, math.MaxInt} {
			if impl.SymbolModulo(1, 5, p, k) {
				t.Errorf("SymbolModulo(1, 5, %d, %d) holds", p, k)
			}
		}
	}
}

func TestSymbolWays(t *testing.T) {
	for _, p := range primesTo(2, 13) {
		for _, a := range []int{-5000, -169, -26, -7, -3, -2, -1, 1, 2, 3, 5, 6, 10, 11, 22, 49, 625, 2187, 4096, 4999} {
			for _, b := range []int{-4913, -121, -13, -6, -5, -1, 1, 2, 3, 7, 12, 14, 33, 2401, 3125} {
				if got, want := impl.SymbolWays(a, b, p), solvedUpTo(a, b, p, p); got != want {
					t.Errorf("SymbolWays(%d, %d, %d) is %d, not %d", a, b, p, got, want)
				}
			}
		}
	}
}

func TestSymbolWaysLimits(t *testing.T) {
	for _, p := range primesTo(2, greatestWays) {
		for _, c := range [][2]int{{1, 1}, {-1, p}, {p, 1}, {p, p}, {-p, 2}, {3, 5}} {
			if got, want := impl.SymbolWays(c[0], c[1], p), solvedUpTo(c[0], c[1], p, p); got != want {
				t.Errorf("SymbolWays(%d, %d, %d) is %d, not %d", c[0], c[1], p, got, want)
			}
		}
	}
	for _, p := range append(noPrimes(), 37, 41, 43, 2503, 4999) {
		for _, a := range []int{1, -3, 5000} {
			if got := impl.SymbolWays(a, 5, p); got != -1 {
				t.Errorf("SymbolWays(%d, 5, %d) is %d", a, p, got)
			}
		}
	}
}

func TestSymbolSameOfPairs(t *testing.T) {
	symbol := symbolTable()
	numbers := []int{-30, -17, -15, -12, -7, -3, -2, -1, 1, 2, 3, 5, 6, 8, 14, 27, 45}
	places := []int{0, 2, 3, 5, 7, 17}
	for _, a := range numbers {
		for _, b := range numbers {
			for _, c := range numbers {
				for _, d := range numbers {
					want := true
					for _, place := range places {
						want = want && symbol(a, b, place) == symbol(c, d, place)
					}
					if got := impl.SymbolSame(a, b, c, d); got != want {
						t.Errorf("SymbolSame(%d, %d, %d, %d) is %t", a, b, c, d, got)
					}
				}
			}
		}
	}
}

func TestSymbolNormAndFind(t *testing.T) {
	for _, place := range somePlaces() {
		judge := symbolJudge(place)
		for _, a := range append(firstNumbers(), max(place, 1), -max(place, 1)) {
			norm, find := 0, 0
			for _, name := range namesOf(place) {
				if judge(a, name) == 1 {
					norm++
				} else if find == 0 {
					find = name
				}
			}
			if got := impl.SymbolNorm(a, place); got != norm {
				t.Errorf("SymbolNorm(%d, %d) is %d, not %d", a, place, got, norm)
			}
			if got, ok := impl.SymbolFind(a, place); got != find || ok != (find != 0) {
				t.Errorf("SymbolFind(%d, %d) is %d, %t, not %d", a, place, got, ok, find)
			}
		}
	}
}

func TestSymbolNormAndFindAtEachPrime(t *testing.T) {
	for _, p := range primesTo(3, numberMax) {
		judge := symbolJudge(p)
		for _, a := range []int{1, -1, 2, 3, p, -p} {
			norm, find := 0, 0
			for _, name := range mustNames(t, p) {
				if judge(a, name) == 1 {
					norm++
				} else if find == 0 {
					find = name
				}
			}
			if got := impl.SymbolNorm(a, p); got != norm {
				t.Errorf("SymbolNorm(%d, %d) is %d, not %d", a, p, got, norm)
			}
			if got, ok := impl.SymbolFind(a, p); got != find || ok != (find != 0) {
				t.Errorf("SymbolFind(%d, %d) is %d, %t, not %d", a, p, got, ok, find)
			}
		}
	}
}

func TestSymbolPlacesKeepNothing(t *testing.T) {
	places := impl.SymbolPlaces(-3, -5)
	want := slices.Clone(places)
	clear(places[:cap(places)])
	if again := impl.SymbolPlaces(-3, -5); !slices.Equal(again, want) || len(want) == 0 {
		t.Errorf("SymbolPlaces(-3, -5) is %v behind a change of an earlier result %v", again, want)
	}
}
