package tests

import (
	"math"
	"slices"
	"testing"

	"loop.example/localglobal/impl"
)

// The limits of the chapter on zeros.
const (
	zeroMax   = 1000000
	normalMax = 30000
	manyMax   = 6
	splitMax  = 3
)

// valueOf is the sum over all terms of the term times the integers of two vectors there.
func valueOf(form []int, v []int, w []int) int {
	sum := 0
	for i := range form {
		sum += form[i] * (v[i] * w[i])
	}
	return sum
}

func isZero(form []int, v []int) bool {
	return valueOf(form, v, v) == 0 && slices.ContainsFunc(v, func(x int) bool { return x != 0 })
}

func heightOf(v []int) int {
	return max(slices.Max(v), -slices.Min(v))
}

func timesAll(v []int, n int) []int {
	v = slices.Clone(v)
	for i := range v {
		v[i] *= n
	}
	return v
}

func sumOf(v []int, w []int) []int {
	v = slices.Clone(v)
	for i := range v {
		v[i] += w[i]
	}
	return v
}

// dividesAll tells whether an integer divides all of a list.
func dividesAll(d int, list []int) bool {
	return !slices.ContainsFunc(list, func(n int) bool { return !divides(d, n) })
}

// plainOf tries all divisors of a vector that is not all 0, from the greatest one on.
func plainOf(v []int) []int {
	d := heightOf(v)
	for !dividesAll(d, v) {
		d--
	}
	v = slices.Clone(v)
	for i := range v {
		v[i] /= d
	}
	for _, x := range v {
		if x < 0 {
			return opposites(v)
		}
		if x > 0 {
			break
		}
	}
	return v
}

// isNormal tells of three terms whether they are normal, by all squares and all primes that might divide.
func isNormal(terms []int) bool {
	for i, term := range terms {
		if term == 0 || coreOf(term) != term {
			return false
		}
		other := terms[(i+1)%len(terms)]
		for d := 2; d <= sizeOf(term) && d <= sizeOf(other); d++ {
			if divides(d, term) && divides(d, other) {
				return false
			}
		}
	}
	return true
}

// commonOf finds the first two terms that some integer of at least 2 divides, and the least such one, which is a prime.
func commonOf(terms []int) (int, int, int, int) {
	for _, at := range [][]int{{0, 1, 2}, {0, 2, 1}, {1, 2, 0}} {
		for p := 2; p <= normalMax && p <= sizeOf(terms[at[0]]); p++ {
			if dividesAll(p, []int{terms[at[0]], terms[at[1]]}) {
				return p, at[0], at[1], at[2]
			}
		}
	}
	return 1, 0, 0, 0
}

// normalOf takes the steps of the document for a form of three terms.
func normalOf(form []int) ([]int, []int) {
	terms, factors := coresOf(form, 1), ones(3)
	for i := range form {
		root := 1
		for root*root*terms[i] != form[i] {
			root++
		}
		for j := range factors {
			if j != i {
				factors[j] *= root
			}
		}
	}
	for {
		p, i, j, k := commonOf(terms)
		if p == 1 {
			return terms, factors
		}
		terms[i] /= p
		terms[j] /= p
		if divides(p, terms[k]) {
			terms[k] /= p
		} else {
			terms[k] *= p
			factors[k] *= p
		}
	}
}

// searchOf finds the first zero of three normal terms, or nothing.
func searchOf(terms []int) []int {
	a, b, c := terms[0], terms[1], terms[2]
	for x := 0; x*x <= sizeOf(b*c); x++ {
		for y := 0; y*y <= sizeOf(a*c); y++ {
			value := -a*x*x - b*y*y
			if x == 0 && y == 0 || !divides(c, value) || value/c < 0 || !isSquare(value/c) {
				continue
			}
			return []int{x, y, int(math.Round(math.Sqrt(float64(value / c))))}
		}
	}
	return nil
}

// findOf finds the zero of the document of a form, or nothing.
func findOf(form []int) []int {
	switch len(form) {
	case 2:
		for y := 1; y <= 5; y++ {
			for x := 1; x <= 5; x++ {
				if isZero(form, []int{x, y}) {
					return plainOf([]int{x, y})
				}
			}
		}
	case 3:
		terms, factors := normalOf(form)
		zero := searchOf(terms)
		if zero == nil {
			return nil
		}
		for i := range zero {
			zero[i] *= factors[i]
		}
		return plainOf(zero)
	case 4:
		for x := 0; x <= splitMax; x++ {
			for y := 0; y <= splitMax; y++ {
				if zero := splitZero(form, x, y); zero != nil {
					return plainOf(zero)
				}
			}
		}
	}
	return nil
}

// splitZero finds the zero of a form of four terms for two first integers that are tried, or nothing.
func splitZero(form []int, x int, y int) []int {
	if x == 0 && y == 0 {
		return nil
	}
	t := form[0]*(x*x) + form[1]*(y*y)
	if t == 0 {
		return []int{x, y, 0, 0}
	}
	core := coreOf(t)
	if sizeOf(core) > termMax {
		return nil
	}
	zero := findOf([]int{form[2], form[3], core})
	if zero == nil {
		return nil
	}
	root := 1
	for root*root*core != t {
		root++
	}
	return []int{x * zero[2], y * zero[2], root * zero[0], root * zero[1]}
}

// sizesTo lists all integers of at most a size.
func sizesTo(size int) []int {
	list := []int{}
	for n := -size; n <= size; n++ {
		list = append(list, n)
	}
	return list
}

// zeroForms are some forms of each number of terms, most of them with primes in common or with terms that squares divide.
func zeroForms() [][]int {
	forms := [][]int{}
	for n, terms := range [][]int{allTerms(), allTerms(), fewTerms(), {-30, -12, -5, -1, 1, 3, 6, 20, 27}} {
		if n < 3 {
			forms = slices.AppendSeq(forms, listsOf(n+1, terms))
		} else {
			forms = append(forms, ascendingOf(n+1, terms)...)
		}
	}
	return forms
}

// eachZero calls a function for many zeros of many forms.
func eachZero(use func(form []int, v []int)) {
	vectors := [][][]int{}
	for n, size := range []int{5, 5, 4, 2} {
		vectors = append(vectors, slices.Collect(listsOf(n+1, sizesTo(size))))
	}
	for _, form := range zeroForms() {
		for _, v := range vectors[len(form)-1] {
			if isZero(form, v) {
				use(form, v)
			}
		}
		if v := findOf(form); v != nil {
			use(form, v)
			use(form, timesAll(v, -12))
			use(form, timesAll(v, zeroMax/heightOf(v)))
		}
	}
}

// noZeroComponents are integers that no function takes for one of a zero.
func noZeroComponents() []int {
	return []int{zeroMax + 1, -zeroMax - 1, zeroMax + 2, 2 * zeroMax, 1 << 31, 1 << 32, -1 << 32, 1<<32 + 1, 1 << 62, math.MaxInt, math.MinInt, math.MinInt + 1}
}

func mustNormal(t *testing.T, form []int) ([]int, []int) {
	t.Helper()
	terms, factors, ok := impl.ZeroNormal(form)
	if !ok || len(terms) != 3 || len(factors) != 3 {
		t.Fatalf("ZeroNormal(%v) is %v, %v, %t", form, terms, factors, ok)
	}
	return terms, factors
}

func mustPlain(t *testing.T, form []int, v []int) []int {
	t.Helper()
	plain, ok := impl.ZeroPlain(form, v)
	if !ok || len(plain) != len(v) {
		t.Fatalf("ZeroPlain(%v, %v) is %v, %t", form, v, plain, ok)
	}
	return plain
}

func mustPair(t *testing.T, form []int, v []int, w []int) int {
	t.Helper()
	pair, ok := impl.ZeroPair(form, v, w)
	if !ok {
		t.Fatalf("ZeroPair(%v, %v, %v) failed", form, v, w)
	}
	return pair
}
