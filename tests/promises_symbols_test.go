package tests

import (
	"slices"
	"testing"

	"loop.example/localglobal/impl"
)

func TestPromise23(t *testing.T) {
	for _, place := range pairPlaces() {
		names := mustNames(t, place)
		eachPair(func(a int, b int) {
			symbol := impl.SymbolOf(a, b, place)
			if symbol == 0 || impl.SymbolOf(b, a, place) != symbol {
				t.Errorf("SymbolOf(%d, %d, %d) is %d, exchanged %d", a, b, place, symbol, impl.SymbolOf(b, a, place))
			}
			x, y := mustName(t, a, place), mustName(t, b, place)
			if isNumber(x) && isNumber(y) && impl.SymbolOf(x, y, place) != symbol {
				t.Errorf("SymbolOf(%d, %d, %d) is %d, of the names %d and %d %d", a, b, place, symbol, x, y, impl.SymbolOf(x, y, place))
			}
			for _, name := range names {
				if isNumber(name) && isNumber(b*name) && impl.SymbolOf(a, b*name, place) != symbol*impl.SymbolOf(a, name, place) {
					t.Errorf("SymbolOf(%d, %d, %d) is %d, with %d %d", a, b*name, place, impl.SymbolOf(a, b*name, place), b, symbol)
				}
			}
		})
		for a := range allNumbers() {
			if a != 0 && impl.SymbolOf(a, -a, place) != 1 {
				t.Errorf("SymbolOf(%d, %d, %d) is %d", a, -a, place, impl.SymbolOf(a, -a, place))
			}
		}
	}
}

func TestPromise24(t *testing.T) {
	for _, place := range append(pairPlaces(), 19, 23, 71, 2503) {
		for a := range allNumbers() {
			if a == 0 {
				continue
			}
			if symbol := impl.SymbolOf(a, 1-a, place); a != 1 && isNumber(1-a) && symbol != 1 {
				t.Errorf("SymbolOf(%d, %d, %d) is %d", a, 1-a, place, symbol)
			}
			if symbol, other := impl.SymbolOf(a, a, place), impl.SymbolOf(a, -1, place); symbol == 0 || symbol != other {
				t.Errorf("SymbolOf(%d, %d, %d) is %d, with -1 %d", a, a, place, symbol, other)
			}
		}
	}
	if impl.SymbolOf(1, 0, 3) != 0 || impl.SymbolOf(-5000, 5001, 3) != 0 {
		t.Errorf("SymbolOf is %d and %d for 0 and 5001", impl.SymbolOf(1, 0, 3), impl.SymbolOf(-5000, 5001, 3))
	}
}

func TestPromise25(t *testing.T) {
	filled := 0
	eachPair(func(a int, b int) {
		places := impl.SymbolPlaces(a, b)
		if len(places) > 0 {
			filled++
		}
		if len(places)%2 != 0 || !slices.Equal(places, impl.SymbolPlaces(b, a)) || impl.SymbolSign(a, b) != 1 {
			t.Errorf("SymbolPlaces(%d, %d) is %v, exchanged %v, SymbolSign %d", a, b, places, impl.SymbolPlaces(b, a), impl.SymbolSign(a, b))
		}
		for i, place := range places {
			if i > 0 && places[i-1] >= place {
				t.Errorf("SymbolPlaces(%d, %d) is %v", a, b, places)
			}
			if impl.LocalSquare(a, place) || impl.LocalSquare(b, place) || impl.SymbolOf(a, b, place) != -1 {
				t.Errorf("SymbolPlaces(%d, %d) is %v, SymbolOf at %d %d", a, b, places, place, impl.SymbolOf(a, b, place))
			}
		}
	})
	if filled == 0 {
		t.Error("SymbolPlaces is always empty")
	}
}

func TestPromise26(t *testing.T) {
	for a := range allNumbers() {
		for _, b := range []int{-1, 2, -3, 7, 4096, 4374, -4913, 4999, 5000, a, -a} {
			want := 1
			if a == 0 {
				want = 0
			}
			if got := impl.SymbolSign(a, b); got != want {
				t.Errorf("SymbolSign(%d, %d) is %d", a, b, got)
			}
		}
	}
	for _, n := range noFactors() {
		if impl.SymbolSign(n, 3) != 0 || impl.SymbolSign(3, n) != 0 {
			t.Errorf("SymbolSign of %d and 3 is %d, exchanged %d", n, impl.SymbolSign(n, 3), impl.SymbolSign(3, n))
		}
	}
}

func TestPromise27(t *testing.T) {
	solved := 0
	for _, a := range firstNumbers() {
		for _, b := range []int{-4096, -18, -3, -1, 1, 2, 3, 5, 12, 2187} {
			for _, v := range [][3]int{{1, 1, 1}, {1, 0, 1}, {0, 1, 1}, {1, 1, 0}, {1, 2, 3}, {2, 1, 5}, {3, 4, 5}, {1, -1, 2}, {1, 0, 8}, {2, 3, 54}, {0, 0, 0}} {
				holds := impl.SymbolSolved(a, b, v[0], v[1], v[2])
				if holds != impl.SymbolSolved(a, b, -v[0], -v[1], -v[2]) {
					t.Errorf("SymbolSolved(%d, %d) is %t for %v, and not for the opposites", a, b, holds, v)
				}
				if !holds {
					continue
				}
				solved++
				if !impl.SymbolSplit(a, b) || v[2]*v[2] != a*v[0]*v[0]+b*v[1]*v[1] || v == [3]int{} {
					t.Errorf("SymbolSolved(%d, %d) holds for %v, SymbolSplit %t", a, b, v, impl.SymbolSplit(a, b))
				}
			}
		}
	}
	if solved == 0 || !impl.SymbolSolved(2, -1, 5, -5, 5) {
		t.Error("SymbolSolved never holds")
	}
}

// someCores are cores, small and great, with each valuation and rest that matters at 2 and 3.
func someCores() []int {
	return []int{-4999, -1482, -102, -30, -15, -14, -7, -6, -5, -3, -2, -1, 1, 2, 3, 5, 6, 7, 10, 11, 13, 21, 22, 26, 30, 33, 39, 42, 66, 2310, 4993}
}

func TestPromise28(t *testing.T) {
	for _, a := range someCores() {
		for _, b := range someCores() {
			for _, c := range []struct{ p, k int }{{3, 3}, {2, 5}} {
				if holds := impl.SymbolModulo(a, b, c.p, c.k); holds && impl.SymbolOf(a, b, c.p) != 1 {
					t.Errorf("SymbolModulo(%d, %d, %d, %d) holds, and SymbolOf is not 1", a, b, c.p, c.k)
				}
			}
		}
	}
	for _, a := range []int{-3, 2, 5, 6, 9, 32, 50, 81, 2048, 2187} {
		for _, b := range []int{-27, -1, 3, 7, 8, 12, 64, 3125, 4096} {
			for _, c := range []struct{ p, k int }{{2, 2}, {2, 3}, {2, 4}, {2, 5}, {3, 2}, {3, 3}, {5, 2}} {
				if impl.SymbolModulo(a, b, c.p, c.k) && !impl.SymbolModulo(a, b, c.p, c.k-1) {
					t.Errorf("SymbolModulo(%d, %d, %d, %d) holds, and not for the exponent less 1", a, b, c.p, c.k)
				}
			}
		}
	}
	if impl.SymbolModulo(2, 3, 3, 3) || impl.SymbolModulo(2, 3, 2, 5) || impl.SymbolModulo(-1, -1, 2, 5) {
		t.Error("SymbolModulo holds where the symbol is -1")
	}
}

func TestPromise29(t *testing.T) {
	numbers := []int{-5000, -4999, -4096, -2187, -972, -96, -75, -20, -12, -7, -3, -2, -1, 1, 2, 3, 5, 6, 7, 8, 9, 10, 24, 27, 40, 54, 81, 162, 243, 512, 2048, 4374, 5000}
	for _, a := range numbers {
		for _, b := range numbers {
			for _, p := range []int{2, 3} {
				for k := 1; k <= 3; k++ {
					if impl.SymbolOf(a, b, p) == 1 && !impl.SymbolModulo(a, b, p, k) {
						t.Errorf("SymbolModulo(%d, %d, %d, %d) fails, and SymbolOf is 1", a, b, p, k)
					}
				}
			}
		}
	}
}

func TestPromise30(t *testing.T) {
	for _, p := range primesTo(3, greatestWays) {
		for _, a := range []int{-4999, -7, -1, 1, 2, 10, 2048, p, -p * p, 5000} {
			for _, b := range []int{-5, -1, 3, 4, 77, -p, p * p, 3 * p} {
				ways := impl.SymbolWays(a, b, p)
				if divides(p, a) == divides(p, b) && ways != p*p-1 {
					t.Errorf("SymbolWays(%d, %d, %d) is %d", a, b, p, ways)
				}
				if divides(p, a) != divides(p, b) && ways != solvedUpTo(a, b, p, p) {
					t.Errorf("SymbolWays(%d, %d, %d) is %d", a, b, p, ways)
				}
			}
		}
	}
	if impl.SymbolWays(1, 1, 37) != -1 || impl.SymbolWays(1, 1, 2) != 3 {
		t.Errorf("SymbolWays(1, 1) is %d up to 37 and %d up to 2", impl.SymbolWays(1, 1, 37), impl.SymbolWays(1, 1, 2))
	}
}

func TestPromise31(t *testing.T) {
	split, others := 0, 0
	eachPair(func(a int, b int) {
		holds := impl.SymbolSplit(a, b)
		if holds != impl.SymbolSplit(b, a) {
			t.Errorf("SymbolSplit(%d, %d) is %t, and not exchanged", a, b, holds)
		}
		if !holds {
			others++
			return
		}
		split++
		for x := 1; isNumber(a * x * x); x++ {
			if !impl.SymbolSplit(a*x*x, b) {
				t.Errorf("SymbolSplit(%d, %d) fails, and holds for %d", a*x*x, b, a)
			}
		}
		if isNumber(-a*b) && !impl.SymbolSplit(a, -a*b) {
			t.Errorf("SymbolSplit(%d, %d) fails, and holds for %d", a, -a*b, b)
		}
	})
	if split == 0 || others == 0 {
		t.Errorf("SymbolSplit holds %d times, and fails %d times", split, others)
	}
}

func TestPromise32(t *testing.T) {
	numbers := []int{-5000, -4096, -105, -27, -15, -6, -1, 1, 2, 3, 5, 7, 14, 48, 2187, 4999}
	same := 0
	for _, a := range numbers {
		for _, b := range numbers {
			for _, c := range numbers {
				for _, d := range numbers {
					if !impl.SymbolSame(a, b, c, d) {
						continue
					}
					same++
					if !impl.SymbolSame(c, d, a, b) || !impl.SymbolSame(b, a, d, c) {
						t.Errorf("SymbolSame(%d, %d, %d, %d) holds, and not exchanged", a, b, c, d)
					}
					for _, place := range pairPlaces() {
						if impl.SymbolOf(a, b, place) != impl.SymbolOf(c, d, place) {
							t.Errorf("SymbolSame(%d, %d, %d, %d) holds, and SymbolOf at %d is not the same", a, b, c, d, place)
						}
					}
				}
			}
		}
	}
	if same == 0 || !impl.SymbolSame(-1, -1, -5000, -5000) || impl.SymbolSame(-1, -1, 2, 3) {
		t.Errorf("SymbolSame holds %d times", same)
	}
}

func TestPromise33(t *testing.T) {
	for _, place := range somePlaces() {
		names := mustNames(t, place)
		for a := range allNumbers() {
			want := len(names) / 2
			if a == 0 {
				want = -1
			} else if impl.LocalSquare(a, place) {
				want = len(names)
			}
			if got := impl.SymbolNorm(a, place); got != want {
				t.Errorf("SymbolNorm(%d, %d) is %d, not %d", a, place, got, want)
			}
		}
	}
}

func TestPromise34(t *testing.T) {
	for _, place := range somePlaces() {
		names := mustNames(t, place)
		for a := range allNumbers() {
			if a == 0 || impl.LocalSquare(a, place) {
				if b, ok := impl.SymbolFind(a, place); ok || b != 0 {
					t.Errorf("SymbolFind(%d, %d) is %d, %t", a, place, b, ok)
				}
				continue
			}
			b := mustFind(t, a, place)
			if impl.SymbolOf(a, b, place) != -1 || !slices.Contains(names, b) {
				t.Errorf("SymbolFind(%d, %d) is %d, the symbol %d", a, place, b, impl.SymbolOf(a, b, place))
			}
			for _, name := range names[:max(slices.Index(names, b), 0)] {
				if impl.SymbolOf(a, name, place) != 1 {
					t.Errorf("SymbolFind(%d, %d) is %d, and not %d", a, place, b, name)
				}
			}
		}
	}
}
