package tests

import (
	"iter"
	"math"
	"testing"

	"loop.example/localglobal/impl"
)

// The limits stand here as the document tells them, so that a changed constant of the program is noticed.
const (
	numberMax = 5000
	beyond    = numberMax + 100
)

// noNumbers are integers beyond the limits; some would be numbers again if they were cut to fewer bits or negated.
func noNumbers() []int {
	return []int{
		5001, -5001, 5003, -5003, 5041, -5041, 10000, -10000, 65536 + 3, -65536 - 3,
		1<<32 + 2, 1<<32 + 3, -(1 << 32) - 3, 4999 * 4999, math.MaxInt32, math.MinInt32,
		math.MaxInt, math.MaxInt - 1, math.MinInt, math.MinInt + 1,
	}
}

// someNumbers are all small numbers, and those near the limits and near great squares and primes, with both signs.
func someNumbers() []int {
	list := []int{}
	for n := -60; n <= 60; n++ {
		list = append(list, n)
	}
	for _, n := range []int{64, 72, 81, 97, 100, 121, 128, 144, 243, 360, 625, 720, 961, 1024, 1260, 2047, 2048, 2187, 2310, 2400, 2401, 2500, 3125, 3600, 4096, 4489, 4761, 4899, 4900, 4913, 4987, 4993, 4998, 4999, 5000} {
		list = append(list, n, -n)
	}
	return list
}

// fewNumbers are some for the second one of two.
func fewNumbers() []int {
	return []int{-5000, -4999, -4900, -98, -75, -14, -7, -3, -2, -1, 0, 1, 2, 3, 5, 6, 8, 17, 18, 50, 289, 720, 4987, 4993, 4999, 5000}
}

// allNumbers yields each number.
func allNumbers() iter.Seq[int] {
	return func(yield func(int) bool) {
		for n := -numberMax; n <= numberMax; n++ {
			if !yield(n) {
				return
			}
		}
	}
}

func isNumber(n int) bool {
	return -numberMax <= n && n <= numberMax
}

// primeTable tells of each integer up to a limit whether it is a prime, by a sieve.
func primeTable(limit int) []bool {
	table := make([]bool, limit+1)
	for n := 2; n <= limit; n++ {
		table[n] = true
	}
	for n := 2; n <= limit; n++ {
		for m := 2 * n; table[n] && m <= limit; m += n {
			table[m] = false
		}
	}
	return table
}

// primesTo lists the primes from one integer to another one.
func primesTo(first int, last int) []int {
	list := []int{}
	for p, is := range primeTable(last) {
		if is && p >= first {
			list = append(list, p)
		}
	}
	return list
}

// noOddPrimes are integers that no function takes for an odd prime.
func noOddPrimes() []int {
	return append(noNumbers(), 2, 1, 0, -1, -2, -3, -5, -4999, 4, 9, 15, 21, 25, 49, 561, 4489, 4998, 5000)
}

// noPrimes are integers that no function takes for a prime.
func noPrimes() []int {
	return append(noNumbers(), 1, 0, -1, -2, -3, -5, -4999, 4, 6, 9, 15, 21, 25, 49, 561, 4489, 4998, 5000)
}

func sizeOf(n int) int {
	if n < 0 {
		return -n
	}
	return n
}

// restOf returns the rest from 0 on, counted without the sign rules of the operator %.
func restOf(n int, m int) int {
	if n < 0 {
		return (m - (-n)%m) % m
	}
	return n % m
}

func divides(d int, n int) bool {
	return n%d == 0
}

// rootTable lists, for each rest by a modulus, the least integer whose square has this rest, or -1.
func rootTable(m int) []int {
	table := make([]int, m)
	for r := range table {
		table[r] = -1
	}
	for x := m - 1; x >= 0; x-- {
		table[x*x%m] = x
	}
	return table
}

// legendre tells what the document says of residues: by the squares themselves.
func legendre(n int, p int, roots []int) int {
	switch r := restOf(n, p); {
	case r == 0:
		return 0
	case roots[r] >= 0:
		return 1
	}
	return -1
}

// inverseTable lists, for each rest by a modulus, the inverse, or 0 if there is none.
func inverseTable(m int) []int {
	table := make([]int, m)
	for a := 1; a < m; a++ {
		for b := 1; b < m && table[a] == 0; b++ {
			if a*b%m == 1%m {
				table[a] = b
			}
		}
	}
	return table
}

func mustCore(t *testing.T, n int) (int, int) {
	t.Helper()
	core, root, ok := impl.CoreOf(n)
	if !ok {
		t.Fatalf("CoreOf(%d) failed", n)
	}
	return core, root
}

func mustPower(t *testing.T, n int, e int, m int) int {
	t.Helper()
	x, ok := impl.PowerMod(n, e, m)
	if !ok {
		t.Fatalf("PowerMod(%d, %d, %d) failed", n, e, m)
	}
	return x
}
