package tests

import (
	"testing"

	"loop.example/localglobal/impl"
)

// noPlaces are integers that no function takes for a place.
func noPlaces() []int {
	list := []int{}
	for _, n := range noPrimes() {
		if n != 0 {
			list = append(list, n)
		}
	}
	return list
}

// somePlaces are the small places and the greatest ones; of the primes, some leave each odd rest by 8.
func somePlaces() []int {
	return append([]int{0}, append(primesTo(2, 47), 67, 71, 73, 2503, 4987, 4993, 4999)...)
}

// splitOf returns what is left of an integer behind dividing by a prime as often as it can be, and how often this is.
func splitOf(n int, p int) (int, int) {
	k := 0
	for divides(p, n) {
		n /= p
		k++
	}
	return n, k
}

// squareJudge returns a function that tells, as the document does, whether an integer that is not 0 is a local square at a place.
func squareJudge(place int) func(n int) bool {
	if place == 0 {
		return func(n int) bool { return n > 0 }
	}
	roots := rootTable(place)
	return func(n int) bool {
		unit, k := splitOf(n, place)
		if place == 2 {
			return k%2 == 0 && restOf(unit, 8) == 1
		}
		return k%2 == 0 && legendre(unit, place, roots) == 1
	}
}

// namesOf lists the names at a place in the document's order.
func namesOf(place int) []int {
	switch place {
	case 0:
		return []int{1, -1}
	case 2:
		return []int{1, 3, 5, 7, 2, 6, 10, 14}
	}
	roots := rootTable(place)
	u := 2
	for legendre(u, place, roots) != -1 {
		u++
	}
	return []int{1, u, place, place * u}
}

// placesOf lists 0, 2 and the odd primes that divide a number that is not 0.
func placesOf(n int) []int {
	list := []int{0, 2}
	for p := 3; p <= sizeOf(n); p += 2 {
		prime := divides(p, n)
		for d := 3; d*d <= p; d += 2 {
			prime = prime && !divides(d, p)
		}
		if prime {
			list = append(list, p)
		}
	}
	return list
}

func mustName(t *testing.T, n int, place int) int {
	t.Helper()
	name, ok := impl.LocalName(n, place)
	if !ok {
		t.Fatalf("LocalName(%d, %d) failed", n, place)
	}
	return name
}

func mustNames(t *testing.T, place int) []int {
	t.Helper()
	names, ok := impl.LocalNames(place)
	if !ok {
		t.Fatalf("LocalNames(%d) failed", place)
	}
	return names
}

func mustMul(t *testing.T, a int, b int, place int) int {
	t.Helper()
	name, ok := impl.LocalMul(a, b, place)
	if !ok {
		t.Fatalf("LocalMul(%d, %d, %d) failed", a, b, place)
	}
	return name
}
