package tests

import (
	"slices"
	"testing"

	"loop.example/localglobal/impl"
)

func TestPromise14(t *testing.T) {
	for _, place := range somePlaces() {
		for n := range allNumbers() {
			if !impl.LocalSquare(n, place) {
				continue
			}
			if name := mustName(t, n, place); name != 1 {
				t.Errorf("LocalName(%d, %d) is %d", n, place, name)
			}
			for x := 1; isNumber(n * x * x); x++ {
				if !impl.LocalSquare(n*x*x, place) {
					t.Errorf("LocalSquare(%d, %d) fails, and holds of %d", n*x*x, place, n)
				}
			}
			if _, ok := impl.LocalRoot(n, place, 3); place >= 2 && place <= 13 && !ok {
				t.Errorf("LocalRoot(%d, %d, 3) fails", n, place)
			}
		}
	}
	if !impl.LocalSquare(1, 0) || impl.LocalSquare(-1, 0) || impl.LocalSquare(0, 0) {
		t.Errorf("LocalSquare at 0 is %t, %t, %t for 1, -1 and 0", impl.LocalSquare(1, 0), impl.LocalSquare(-1, 0), impl.LocalSquare(0, 0))
	}
	if !impl.LocalSquare(-7, 2) || impl.LocalSquare(5, 2) || impl.LocalSquare(2, 2) || !impl.LocalSquare(68, 2) {
		t.Errorf("LocalSquare at 2 is %t, %t, %t, %t for -7, 5, 2 and 68", impl.LocalSquare(-7, 2), impl.LocalSquare(5, 2), impl.LocalSquare(2, 2), impl.LocalSquare(68, 2))
	}
}

func TestPromise15(t *testing.T) {
	for _, place := range somePlaces() {
		names := mustNames(t, place)
		for n := range allNumbers() {
			if n == 0 {
				continue
			}
			name := mustName(t, n, place)
			if !slices.Contains(names, name) {
				t.Errorf("LocalName(%d, %d) is %d, none of %v", n, place, name, names)
			}
			for _, other := range names {
				if got := impl.LocalSame(other, n, place); isNumber(other) && got != (other == name) {
					t.Errorf("LocalSame(%d, %d, %d) is %t, LocalName %d", other, n, place, got, name)
				}
			}
			if isNumber(name) && mustName(t, name, place) != name {
				t.Errorf("LocalName(%d, %d), a name, is %d", name, place, mustName(t, name, place))
			}
		}
	}
}

func TestPromise16(t *testing.T) {
	for _, place := range append([]int{0}, primesTo(2, numberMax)...) {
		names := mustNames(t, place)
		if n := len(names); n != 2 && n != 4 && n != 8 || names[0] != 1 {
			t.Errorf("LocalNames(%d) is %v", place, names)
		}
		for _, a := range names {
			products := map[int]bool{}
			for _, b := range names {
				if !isNumber(a) || !isNumber(b) {
					continue
				}
				product := mustMul(t, a, b, place)
				if !slices.Contains(names, product) || (product == 1) != (a == b) || products[product] {
					t.Errorf("LocalMul(%d, %d, %d) is %d", a, b, place, product)
				}
				products[product] = true
			}
		}
	}
}

func TestPromise17(t *testing.T) {
	for _, place := range somePlaces() {
		for _, a := range someNumbers() {
			for _, b := range fewNumbers() {
				same := impl.LocalSame(a, b, place)
				if same != impl.LocalSame(b, a, place) || same && (a == 0 || b == 0) {
					t.Errorf("LocalSame(%d, %d, %d) is %t, exchanged %t", a, b, place, same, !same)
				}
				if a == 0 || b == 0 {
					continue
				}
				if same != (mustName(t, a, place) == mustName(t, b, place)) || same != (mustMul(t, a, b, place) == 1) {
					t.Errorf("LocalSame(%d, %d, %d) is %t, the names are %d and %d, LocalMul %d", a, b, place, same, mustName(t, a, place), mustName(t, b, place), mustMul(t, a, b, place))
				}
			}
		}
	}
}

func TestPromise18(t *testing.T) {
	for _, place := range somePlaces() {
		for _, a := range someNumbers() {
			for _, b := range fewNumbers() {
				if a == 0 || b == 0 {
					continue
				}
				product := mustMul(t, a, b, place)
				if other := mustMul(t, b, a, place); other != product {
					t.Errorf("LocalMul(%d, %d, %d) is %d, exchanged %d", a, b, place, product, other)
				}
				x, y := mustName(t, a, place), mustName(t, b, place)
				if isNumber(x) && isNumber(y) && mustMul(t, x, y, place) != product {
					t.Errorf("LocalMul(%d, %d, %d) is %d, of the names %d", a, b, place, product, mustMul(t, x, y, place))
				}
				if isNumber(product) && mustMul(t, product, b, place) != x {
					t.Errorf("LocalMul(%d, %d, %d) is %d, not %d", product, b, place, mustMul(t, product, b, place), x)
				}
			}
		}
	}
}

func TestPromise19(t *testing.T) {
	for n := range allNumbers() {
		if n == 0 {
			continue
		}
		places := impl.LocalPlaces(n)
		count := 0
		for _, place := range placesOf(n) {
			listed := slices.Contains(places, place)
			if listed {
				count++
			}
			if impl.LocalSquare(n, place) == listed {
				t.Errorf("LocalSquare(%d, %d) is %t, and LocalPlaces %v", n, place, !listed, places)
			}
		}
		if count != len(places) || (count == 0) != impl.SquareIs(n) {
			t.Errorf("LocalPlaces(%d) is %v", n, places)
		}
	}
}

// eachRoot calls a function for each prime, each exponent of which the power is in range, and some numbers, with the result of LocalRoot.
func eachRoot(use func(n int, p int, k int, power int, x int, ok bool)) {
	for _, p := range append(primesTo(2, 79), 2503, 4987, 4993, 4999) {
		power := 1
		for k := 1; power*p <= numberMax; k++ {
			power *= p
			for _, n := range someNumbers() {
				x, ok := impl.LocalRoot(n, p, k)
				use(n, p, k, power, x, ok)
			}
		}
	}
}

func TestPromise20(t *testing.T) {
	eachRoot(func(n int, p int, k int, power int, x int, ok bool) {
		if y, found := impl.RootMod(n, power); found != ok || x != y {
			t.Errorf("LocalRoot(%d, %d, %d) is %d, %t, and RootMod %d, %t", n, p, k, x, ok, y, found)
		}
		if _, less := impl.LocalRoot(n, p, k-1); ok && k > 1 && !less {
			t.Errorf("LocalRoot(%d, %d, %d) fails, and succeeds for %d", n, p, k-1, k)
		}
	})
}

func TestPromise21(t *testing.T) {
	eachRoot(func(n int, p int, k int, power int, _ int, ok bool) {
		if !ok || p == 2 || divides(p, n) {
			return
		}
		if _, more := impl.LocalRoot(n, p, k+1); more != (power*p <= numberMax) {
			t.Errorf("LocalRoot(%d, %d, %d) is %t, and succeeds for %d", n, p, k+1, more, k)
		}
		if !impl.LocalSquare(n, p) {
			t.Errorf("LocalSquare(%d, %d) fails, and LocalRoot succeeds for %d", n, p, k)
		}
	})
}

func TestPromise22(t *testing.T) {
	for _, p := range append(primesTo(2, 97), 2503, 4999) {
		for n := range allNumbers() {
			unit, ok := impl.LocalUnit(n, p)
			if ok != (n != 0) {
				t.Fatalf("LocalUnit(%d, %d) is %d, %t", n, p, unit, ok)
			}
			if !ok {
				continue
			}
			product := unit
			for range impl.ValuationOf(n, p) {
				product *= p
			}
			if divides(p, unit) || product != n {
				t.Errorf("LocalUnit(%d, %d) is %d", n, p, unit)
			}
			if again, ok := impl.LocalUnit(unit, p); !ok || again != unit {
				t.Errorf("LocalUnit(%d, %d), a unit, is %d, %t", unit, p, again, ok)
			}
		}
	}
}
