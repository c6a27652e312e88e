package impl

import "iter"

// NumberMax is the greatest size of a number that is asked.
const NumberMax = 5000

// number is an integer of which this chapter asks something; it is a number of the document only if valid holds.
type number int

func (n number) valid() bool {
	return -NumberMax <= n && n <= NumberMax
}

// factored reports whether the number has a valuation at each prime: 0 has none.
func (n number) factored() bool {
	return n.valid() && n != 0
}

func (n number) size() int {
	if n < 0 {
		return int(-n)
	}
	return int(n)
}

// rest returns the rest from 0 on, where the operator % would take the sign of the number.
func (n number) rest(m int) int {
	r := int(n) % m
	if r < 0 {
		r += m
	}
	return r
}

// primePowers yields the primes that divide a number, ascending, each with its valuation; for 0 it yields nothing.
func (n number) primePowers() iter.Seq2[int, int] {
	return func(yield func(int, int) bool) {
		left := n.size()
		for p := 2; p*p <= left; p++ {
			k := number(left).valuation(p)
			for range k {
				left /= p
			}
			if k > 0 && !yield(p, k) {
				return
			}
		}
		// No prime up to its square root divides what is left: it is a prime itself, or 1.
		if left > 1 {
			yield(left, 1)
		}
	}
}

// leastPrime returns the least prime that divides a number, or 0 for 0, 1 and -1.
func (n number) leastPrime() int {
	for p := range n.primePowers() {
		return p
	}
	return 0
}

func (n number) prime() bool {
	return n >= 2 && n.valid() && n.leastPrime() == int(n)
}

func (n number) oddPrime() bool {
	return n != 2 && n.prime()
}

// valuation needs a number that is not 0, which any prime would divide forever.
func (n number) valuation(p int) int {
	k := 0
	for left := int(n); left%p == 0; left /= p {
		k++
	}
	return k
}

// power returns the rest of a power by squaring, so that no product exceeds the square of the modulus.
func (n number) power(e int, m int) int {
	result := 1 % m
	factor := n.rest(m)
	for ; e > 0; e /= 2 {
		if e%2 == 1 {
			result = result * factor % m
		}
		factor = factor * factor % m
	}
	return result
}

// core returns the core and the root part of an integer that is not 0. It may be greater than a number, as products are.
func (n number) core() (int, int) {
	root := 1
	for p, k := range n.primePowers() {
		for range k / 2 {
			root *= p
		}
	}
	return int(n) / (root * root), root
}

// common returns the greatest integer that divides both, 0 for both 0. They may be greater than numbers, as the integers of zeros are.
func (n number) common(m int) int {
	x, y := n.size(), number(m).size()
	for y != 0 {
		x, y = y, x%y
	}
	return x
}

// squareRoot returns the integer from 0 on whose square an integer is, and false if there is none. It may be greater than a number, as values of forms are.
func (n number) squareRoot() (int, bool) {
	if n < 0 {
		return 0, false
	}
	square := int(n)
	x := square
	// Newton's steps from above stop at the greatest integer whose square is not greater.
	for x*x > square {
		x = (x + square/x) / 2
	}
	return x, x*x == square
}

func modulusValid(m int) bool {
	return 1 <= m && m <= NumberMax
}

// PrimeIs reports whether an integer is a prime, at most NumberMax.
func PrimeIs(n int) bool {
	return number(n).prime()
}

// PrimesOf returns the primes that divide a number, ascending.
func PrimesOf(n int) []int {
	primes := []int{}
	if !number(n).factored() {
		return primes
	}
	for p := range number(n).primePowers() {
		primes = append(primes, p)
	}
	return primes
}

// ValuationOf returns the valuation of a number at a prime, or -1 if the first integer is no number, or 0, or the second one is no prime, at most NumberMax.
func ValuationOf(n int, p int) int {
	if !number(n).factored() || !number(p).prime() {
		return -1
	}
	return number(n).valuation(p)
}

// CoreOf returns the core and the root part of a number, and true.
func CoreOf(n int) (int, int, bool) {
	if !number(n).factored() {
		return 0, 0, false
	}
	core, root := number(n).core()
	return core, root, true
}

// SquareIs reports whether a number is the square of an integer.
func SquareIs(n int) bool {
	if !number(n).valid() {
		return false
	}
	_, ok := number(n).squareRoot()
	return ok
}

// PowerMod returns the rest, from 0 on, of a number to the power of an exponent of at least 0, by a modulus from 1 to NumberMax, and true.
func PowerMod(n int, e int, m int) (int, bool) {
	if !number(n).valid() || e < 0 || e > NumberMax || !modulusValid(m) {
		return 0, false
	}
	return number(n).power(e, m), true
}

// InverseMod returns the integer from 1 to the modulus less 1 by which a number times it leaves the rest 1, and true.
func InverseMod(n int, m int) (int, bool) {
	if !number(n).valid() || m == 1 || !modulusValid(m) {
		return 0, false
	}
	// Euclid's algorithm; all along, n times x leaves the rest of a, and n times y that of b.
	a, x := m, 0
	b, y := number(n).rest(m), 1
	for b != 0 {
		q := a / b
		a, b = b, a-q*b
		x, y = y, x-q*y
	}
	if a != 1 {
		return 0, false
	}
	return number(x).rest(m), true
}

// ResidueIs returns 1 if a number is a residue of an odd prime, 0 if the prime divides it, and otherwise -1; or -2 if the first integer is no number or the second one no odd prime, at most NumberMax.
func ResidueIs(n int, p int) int {
	if !number(n).valid() || !number(p).oddPrime() {
		return -2
	}
	// Euler: the power leaves the rest 1 for the residues, and p less 1 for all others that p does not divide.
	switch number(n).power((p-1)/2, p) {
	case 0:
		return 0
	case 1:
		return 1
	}
	return -1
}

// JacobiOf returns the product of ResidueIs of a number for all primes of an odd number of at least 1, each as often as it divides it; or -2 if the first integer is no number or the second one none such, at most NumberMax.
func JacobiOf(n int, m int) int {
	if !number(n).valid() || !modulusValid(m) || m%2 == 0 {
		return -2
	}
	product := 1
	for p, k := range number(m).primePowers() {
		for range k {
			product *= ResidueIs(n, p)
		}
	}
	return product
}

// RootMod returns the least integer from 0 on whose square differs from a number by a multiple of a modulus, from 1 to NumberMax, and true.
func RootMod(n int, m int) (int, bool) {
	if !number(n).valid() || !modulusValid(m) {
		return 0, false
	}
	want := number(n).rest(m)
	// x and m less x have squares of the same rest: the least root is in the first half.
	for x := 0; x <= m/2; x++ {
		if x*x%m == want {
			return x, true
		}
	}
	return 0, false
}

// NonResidue returns the least integer of at least 2 that is no residue of an odd prime, and true.
func NonResidue(p int) (int, bool) {
	if !number(p).oddPrime() {
		return 0, false
	}
	n := 2
	// This ends: only half of the integers from 1 to p less 1 are residues.
	for ResidueIs(n, p) == 1 {
		n++
	}
	return n, true
}

// GcdOf returns the greatest integer that divides two numbers, 0 for both 0, or -1 if one of both is no number.
func GcdOf(a int, b int) int {
	if !number(a).valid() || !number(b).valid() {
		return -1
	}
	return number(a).common(b)
}
