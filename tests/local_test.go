package tests

import (
	"math"
	"slices"
	"testing"

	"loop.example/localglobal/impl"
)

func TestPlaceValid(t *testing.T) {
	table := primeTable(beyond)
	for n := -beyond; n <= beyond; n++ {
		want := n == 0 || n > 0 && n <= numberMax && table[n]
		if got := impl.PlaceValid(n); got != want {
			t.Errorf("PlaceValid(%d) is %t", n, got)
		}
	}
	for _, n := range noPlaces() {
		if impl.PlaceValid(n) {
			t.Errorf("PlaceValid(%d) holds", n)
		}
	}
}

func TestLocalSquare(t *testing.T) {
	for _, place := range somePlaces() {
		judge := squareJudge(place)
		for n := range allNumbers() {
			want := n != 0 && judge(n)
			if got := impl.LocalSquare(n, place); got != want {
				t.Errorf("LocalSquare(%d, %d) is %t", n, place, got)
			}
		}
	}
}

// What the document calls a local square is one up to every power of the prime, as soon as it is one up to a power that is great enough.
func TestLocalSquareUpToPowers(t *testing.T) {
	for _, p := range []int{2, 3, 5, 7, 11, 13} {
		tables := map[int][]int{}
		for n := range allNumbers() {
			if n == 0 {
				continue
			}
			_, k := splitOf(n, p)
			power := p
			if p == 2 {
				power = 8
			}
			for range k {
				power *= p
			}
			if tables[power] == nil {
				tables[power] = rootTable(power)
			}
			want := tables[power][restOf(n, power)] >= 0
			if got := impl.LocalSquare(n, p); got != want {
				t.Errorf("LocalSquare(%d, %d) is %t, up to %d %t", n, p, got, power, want)
			}
		}
	}
}

func TestLocalNames(t *testing.T) {
	for _, place := range append([]int{0}, primesTo(2, numberMax)...) {
		names, ok := impl.LocalNames(place)
		if want := namesOf(place); !ok || !slices.Equal(names, want) {
			t.Errorf("LocalNames(%d) is %v, %t, not %v", place, names, ok, want)
		}
	}
	for _, place := range noPlaces() {
		if names, ok := impl.LocalNames(place); ok || len(names) != 0 {
			t.Errorf("LocalNames(%d) is %v, %t", place, names, ok)
		}
	}
}

func TestLocalName(t *testing.T) {
	for _, place := range somePlaces() {
		judge := squareJudge(place)
		for _, n := range append(someNumbers(), sizeOf(place), -sizeOf(place)) {
			if n == 0 {
				continue
			}
			want := 0
			for _, name := range namesOf(place) {
				if judge(n * name) {
					want = name
				}
			}
			if name, ok := impl.LocalName(n, place); !ok || name != want {
				t.Errorf("LocalName(%d, %d) is %d, %t, not %d", n, place, name, ok, want)
			}
		}
	}
}

func TestLocalSameAndMul(t *testing.T) {
	for _, place := range somePlaces() {
		judge := squareJudge(place)
		names := namesOf(place)
		for _, a := range append(someNumbers(), sizeOf(place), -sizeOf(place)) {
			for _, b := range fewNumbers() {
				if a == 0 || b == 0 {
					continue
				}
				if got := impl.LocalSame(a, b, place); got != judge(a*b) {
					t.Errorf("LocalSame(%d, %d, %d) is %t", a, b, place, got)
				}
				name, ok := impl.LocalMul(a, b, place)
				if !ok || !slices.Contains(names, name) || !judge(a*b*name) {
					t.Errorf("LocalMul(%d, %d, %d) is %d, %t", a, b, place, name, ok)
				}
			}
		}
	}
}

// expectNoClass checks all functions of a number and a place for a pair of which one is invalid.
func expectNoClass(t *testing.T, n int, place int) {
	t.Helper()
	if impl.LocalSquare(n, place) {
		t.Errorf("LocalSquare(%d, %d) holds", n, place)
	}
	if name, ok := impl.LocalName(n, place); ok || name != 0 {
		t.Errorf("LocalName(%d, %d) is %d, %t", n, place, name, ok)
	}
	for _, other := range []int{1, -3, n} {
		if impl.LocalSame(n, other, place) || impl.LocalSame(other, n, place) {
			t.Errorf("LocalSame of %d and %d holds at %d", n, other, place)
		}
		if name, ok := impl.LocalMul(n, other, place); ok || name != 0 {
			t.Errorf("LocalMul(%d, %d, %d) is %d, %t", n, other, place, name, ok)
		}
		if name, ok := impl.LocalMul(other, n, place); ok || name != 0 {
			t.Errorf("LocalMul(%d, %d, %d) is %d, %t", other, n, place, name, ok)
		}
	}
}

func TestLocalClassInvalid(t *testing.T) {
	for _, n := range append(noNumbers(), 0) {
		for _, place := range []int{0, 2, 3, 5, 4999} {
			expectNoClass(t, n, place)
		}
	}
	for _, place := range noPlaces() {
		for _, n := range []int{-5000, -4, -1, 0, 1, 4, 9, 17, 5000, 5041, math.MaxInt, math.MinInt} {
			expectNoClass(t, n, place)
		}
	}
}

func TestLocalPlaces(t *testing.T) {
	judges := map[int]func(n int) bool{}
	for n := range allNumbers() {
		want := []int{}
		for _, place := range placesOf(n) {
			if judges[place] == nil {
				judges[place] = squareJudge(place)
			}
			if n != 0 && !judges[place](n) {
				want = append(want, place)
			}
		}
		if got := impl.LocalPlaces(n); !slices.Equal(got, want) {
			t.Errorf("LocalPlaces(%d) is %v, not %v", n, got, want)
		}
	}
	for _, n := range append(noNumbers(), 0, 1, 4, 4900) {
		if got := impl.LocalPlaces(n); len(got) != 0 {
			t.Errorf("LocalPlaces(%d) is %v", n, got)
		}
	}
}

func TestLocalRoot(t *testing.T) {
	for _, p := range somePlaces() {
		if p == 0 {
			continue
		}
		power := 1
		for k := 1; power*p <= numberMax; k++ {
			power *= p
			roots := rootTable(power)
			for _, n := range someNumbers() {
				x, ok := impl.LocalRoot(n, p, k)
				if want := roots[restOf(n, power)]; ok != (want >= 0) || ok && x != want || !ok && x != 0 {
					t.Errorf("LocalRoot(%d, %d, %d) is %d, %t, not %d", n, p, k, x, ok, want)
				}
			}
		}
	}
}

func TestLocalRootLimits(t *testing.T) {
	for _, c := range []struct{ p, greatest int }{{2, 12}, {3, 7}, {5, 5}, {7, 4}, {11, 3}, {13, 3}, {17, 3}, {19, 2}, {67, 2}, {71, 1}, {4999, 1}} {
		if x, ok := impl.LocalRoot(1, c.p, c.greatest); !ok || x != 1 {
			t.Errorf("LocalRoot(1, %d, %d) is %d, %t", c.p, c.greatest, x, ok)
		}
		for _, k := range []int{0, -1, -2, math.MinInt, c.greatest + 1, c.greatest + 2, 20, 40, 63, 64, 65, 128, 1 << 32, 1<<32 + 1, math.MaxInt} {
			for _, n := range []int{0, 1, 4} {
				if x, ok := impl.LocalRoot(n, c.p, k); ok || x != 0 {
					t.Errorf("LocalRoot(%d, %d, %d) is %d, %t", n, c.p, k, x, ok)
				}
			}
		}
	}
}

func TestLocalRootInvalid(t *testing.T) {
	for _, n := range noNumbers() {
		for _, p := range []int{2, 3, 4999} {
			if x, ok := impl.LocalRoot(n, p, 1); ok || x != 0 {
				t.Errorf("LocalRoot(%d, %d, 1) is %d, %t", n, p, x, ok)
			}
		}
	}
	for _, p := range noPrimes() {
		for _, k := range []int{1, 2, 0, -1, math.MaxInt} {
			if x, ok := impl.LocalRoot(1, p, k); ok || x != 0 {
				t.Errorf("LocalRoot(1, %d, %d) is %d, %t", p, k, x, ok)
			}
		}
	}
}

// levelOf counts the squares by trying all sums.
func levelOf(m int) int {
	squares := []int{}
	seen := make([]bool, m)
	for x := 0; x < m; x++ {
		if r := x * x % m; !seen[r] {
			seen[r] = true
			squares = append(squares, r)
		}
	}
	sums := map[int]bool{0: true}
	count := 0
	for ; !sums[m-1]; count++ {
		next := map[int]bool{}
		for sum := range sums {
			for _, s := range squares {
				next[(sum+s)%m] = true
			}
		}
		sums = next
	}
	return count
}

func TestLocalLevel(t *testing.T) {
	if want := levelOf(16); impl.LocalLevel(2) != want {
		t.Errorf("LocalLevel(2) is %d, not %d", impl.LocalLevel(2), want)
	}
	for _, p := range append(primesTo(3, 300), 4987, 4993, 4999) {
		if got, want := impl.LocalLevel(p), levelOf(p); got != want {
			t.Errorf("LocalLevel(%d) is %d, not %d", p, got, want)
		}
	}
	for _, place := range append(noPlaces(), 0) {
		if got := impl.LocalLevel(place); got != -1 {
			t.Errorf("LocalLevel(%d) is %d", place, got)
		}
	}
}

func TestLocalUnit(t *testing.T) {
	for _, p := range somePlaces() {
		for n := range allNumbers() {
			if p == 0 || n == 0 {
				continue
			}
			want, _ := splitOf(n, p)
			if unit, ok := impl.LocalUnit(n, p); !ok || unit != want {
				t.Errorf("LocalUnit(%d, %d) is %d, %t, not %d", n, p, unit, ok, want)
			}
		}
	}
}

func TestLocalUnitInvalid(t *testing.T) {
	for _, n := range append(noNumbers(), 0) {
		for _, p := range []int{2, 3, 4999} {
			if unit, ok := impl.LocalUnit(n, p); ok || unit != 0 {
				t.Errorf("LocalUnit(%d, %d) is %d, %t", n, p, unit, ok)
			}
		}
	}
	for _, p := range noPrimes() {
		for _, n := range []int{-9, 0, 1, 6, 5000, 5001} {
			if unit, ok := impl.LocalUnit(n, p); ok || unit != 0 {
				t.Errorf("LocalUnit(%d, %d) is %d, %t", n, p, unit, ok)
			}
		}
	}
}

func TestLocalListsKeepNothing(t *testing.T) {
	names := mustNames(t, 2)
	clear(names[:cap(names)])
	if again := mustNames(t, 2); !slices.Equal(again, namesOf(2)) {
		t.Errorf("LocalNames(2) is %v behind a change of an earlier result", again)
	}
	places := impl.LocalPlaces(-105)
	clear(places[:cap(places)])
	if again := impl.LocalPlaces(-105); !slices.Equal(again, []int{0, 2, 3, 5, 7}) {
		t.Errorf("LocalPlaces(-105) is %v behind a change of an earlier result", again)
	}
}
