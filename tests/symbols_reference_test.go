package tests

import (
	"math"
	"slices"
	"testing"

	"loop.example/localglobal/impl"
)

// The limits of the chapter on symbols.
const (
	greatestPower = 32
	greatestWays  = 31
)

// dividedNumbers are numbers that a prime divides often, an even number of times and an odd one, with both signs.
func dividedNumbers() []int {
	list := []int{}
	for _, p := range []int{2, 3, 5, 7, 11, 13, 17} {
		for power := p; power <= numberMax; power *= p {
			for _, factor := range []int{1, 2, 3, 5, 7, 11, 15} {
				if isNumber(power * factor) {
					list = append(list, power*factor, -power*factor)
				}
			}
		}
	}
	return list
}

// firstNumbers are numbers for the first one of two, all but 0.
func firstNumbers() []int {
	list := dividedNumbers()
	for _, n := range someNumbers() {
		if n != 0 {
			list = append(list, n)
		}
	}
	return list
}

// secondNumbers are numbers for the second one of two, all but 0.
func secondNumbers() []int {
	list := []int{}
	for _, n := range append(fewNumbers(), -1024, 512, 2048, -4096, 768, -243, 2187, 4374, 3125, -343, 1331, -1, 7, 11, 15) {
		if n != 0 {
			list = append(list, n)
		}
	}
	return list
}

// pairPlaces are places that divide many of the numbers above, and the greatest ones.
func pairPlaces() []int {
	return []int{0, 2, 3, 5, 7, 11, 13, 17, 31, 4987, 4993, 4999}
}

// eachPair calls a function for many pairs of numbers that are not 0.
func eachPair(use func(a int, b int)) {
	for _, a := range firstNumbers() {
		for _, b := range secondNumbers() {
			use(a, b)
		}
	}
}

// noFactors are integers that no function takes for a number that is not 0.
func noFactors() []int {
	return append(noNumbers(), 0)
}

// noExponents are integers that are no exponent for any prime.
func noExponents() []int {
	return []int{0, -1, -2, -5, 6, 7, 10, 31, 32, 62, 63, 64, 65, 128, 1 << 32, 1<<32 + 1, math.MaxInt, math.MinInt, math.MinInt + 1}
}

// symbolJudge returns a function that tells the symbol of two integers that are not 0, by the squares of all rests and the squares of the units themselves.
func symbolJudge(place int) func(a int, b int) int {
	if place == 0 {
		return func(a int, b int) int {
			if a < 0 && b < 0 {
				return -1
			}
			return 1
		}
	}
	roots := []int{}
	if place > 2 {
		roots = rootTable(place)
	}
	return func(a int, b int) int {
		u, i := splitOf(a, place)
		v, j := splitOf(b, place)
		if place == 2 {
			return minusOneTo((u-1)/2*((v-1)/2) + i*((v*v-1)/8) + j*((u*u-1)/8))
		}
		symbol := minusOneTo(i * j * ((place - 1) / 2))
		for range j {
			symbol *= legendre(u, place, roots)
		}
		for range i {
			symbol *= legendre(v, place, roots)
		}
		return symbol
	}
}

func minusOneTo(exponent int) int {
	if divides(2, exponent) {
		return 1
	}
	return -1
}

// symbolTable keeps a judge for each place that is asked, as its table of squares is slow to make.
func symbolTable() func(a int, b int, place int) int {
	judges := map[int]func(a int, b int) int{}
	return func(a int, b int, place int) int {
		if judges[place] == nil {
			judges[place] = symbolJudge(place)
		}
		return judges[place](a, b)
	}
}

// solvedUpTo counts the triples that solve an equation up to a power of a prime: all that do, less those that the prime divides as a whole.
func solvedUpTo(a int, b int, p int, power int) int {
	count := 0
	for z := 0; z < power; z++ {
		for y := 0; y < power; y++ {
			for x := 0; x < power; x++ {
				if restOf(z*z, power) != restOf(restOf(a*x*x, power)+restOf(b*y*y, power), power) {
					continue
				}
				if !divides(p, x) || !divides(p, y) || !divides(p, z) {
					count++
				}
			}
		}
	}
	return count
}

// solvedFar tells whether an equation is solved up to a power of a prime, by the squares that some z has: those of the units, and those of all.
func solvedFar(a int, b int, p int, power int) bool {
	all := make([]bool, power)
	units := make([]bool, power)
	for z := 0; z < power; z++ {
		all[z*z%power] = true
		if !divides(p, z) {
			units[z*z%power] = true
		}
	}
	for x := 0; x < power; x++ {
		for y := 0; y < power; y++ {
			r := restOf(restOf(a, power)*(x*x%power)+restOf(b, power)*(y*y%power), power)
			if units[r] || all[r] && (!divides(p, x) || !divides(p, y)) {
				return true
			}
		}
	}
	return false
}

// solvedNear tells whether three integers that are not all 0 solve an equation, x and y at most a size.
func solvedNear(a int, b int, size int) bool {
	for x := 0; x <= size; x++ {
		for y := 0; y <= size; y++ {
			if value := a*x*x + b*y*y; (x != 0 || y != 0) && value >= 0 && isSquare(value) {
				return true
			}
		}
	}
	return false
}

func isSquare(n int) bool {
	root := int(math.Sqrt(float64(n)))
	for x := root - 1; x <= root+1; x++ {
		if x*x == n {
			return true
		}
	}
	return false
}

// placesOfBoth lists 0, 2 and the odd primes that divide one of two numbers that are not 0.
func placesOfBoth(a int, b int) []int {
	list := append(placesOf(a), placesOf(b)...)
	slices.Sort(list)
	return slices.Compact(list)
}

func mustFind(t *testing.T, a int, place int) int {
	t.Helper()
	b, ok := impl.SymbolFind(a, place)
	if !ok {
		t.Fatalf("SymbolFind(%d, %d) failed", a, place)
	}
	return b
}
