package tests

import (
	"iter"
	"math"
	"slices"
	"testing"

	"loop.example/localglobal/impl"
)

// The limits of the chapter on forms.
const (
	termsMax  = 4
	termMax   = 30
	vectorMax = 1000
)

func isForm(list []int) bool {
	is := len(list) >= 1 && len(list) <= termsMax
	for _, term := range list {
		is = is && sizeOf(term) >= 1 && sizeOf(term) <= termMax
	}
	return is
}

// noTerms are integers that no function takes for a term.
func noTerms() []int {
	return append(noNumbers(), 0, 31, -31, 32, -32, 60, -900, 5000, 256+1, 65536-1, 1<<32-1)
}

// noForms are lists that no function takes for a form.
func noForms() [][]int {
	lists := [][]int{nil, {}, {1, 1, 1, 1, 1}, {1, -1, 2, -2, 30}, {-30, 30, -30, 30, -30, 30, -30, 30}, make([]int, 4), make([]int, 300)}
	for _, term := range noTerms() {
		for n := 1; n <= termsMax; n++ {
			for i := range n {
				list := slices.Repeat([]int{-1, 1}, termsMax)[:n]
				list[i] = term
				lists = append(lists, list)
			}
		}
	}
	return lists
}

// listsOf yields each list of n of some integers.
func listsOf(n int, integers []int) iter.Seq[[]int] {
	return func(yield func([]int) bool) {
		digits := make([]int, n)
		for {
			list := make([]int, n)
			for i, digit := range digits {
				list[i] = integers[digit]
			}
			if !yield(list) {
				return
			}
			i := n - 1
			for ; i >= 0 && digits[i] == len(integers)-1; i-- {
				digits[i] = 0
			}
			if i < 0 {
				return
			}
			digits[i]++
		}
	}
}

// ascendingOf lists those lists of n of some integers, these ascending, in which none is less than the one ahead of it.
func ascendingOf(n int, integers []int) [][]int {
	lists := [][]int{}
	for list := range listsOf(n, integers) {
		if slices.IsSorted(list) {
			lists = append(lists, list)
		}
	}
	return lists
}

// allTerms are all terms, from the least one on.
func allTerms() []int {
	list := []int{}
	for term := -termMax; term <= termMax; term++ {
		if term != 0 {
			list = append(list, term)
		}
	}
	return list
}

// mostTerms have each sign, each class at 2, 3 and 5, and all primes that a term can have.
func mostTerms() []int {
	return []int{-30, -29, -27, -24, -21, -16, -14, -10, -7, -5, -3, -2, -1, 1, 2, 3, 5, 6, 8, 9, 11, 12, 13, 15, 17, 19, 22, 23, 25, 30}
}

// fewTerms have primes in common, and both signs.
func fewTerms() []int {
	return []int{-30, -21, -18, -7, -2, -1, 1, 3, 5, 6, 10, 28}
}

// someForms yields all forms of one and two terms, and many of three and four.
func someForms() iter.Seq[[]int] {
	return func(yield func([]int) bool) {
		for n, terms := range [][]int{allTerms(), allTerms(), mostTerms(), fewTerms()} {
			for form := range listsOf(n+1, terms) {
				if !yield(form) {
					return
				}
			}
		}
	}
}

// fewForms yields some forms of each number of terms.
func fewForms() iter.Seq[[]int] {
	return func(yield func([]int) bool) {
		for n, terms := range [][]int{allTerms(), mostTerms(), fewTerms(), {-30, -6, -1, 1, 2, 5, 21}} {
			for form := range listsOf(n+1, terms) {
				if !yield(form) {
					return
				}
			}
		}
	}
}

// eachFormPair calls a function for many pairs of forms of as many terms.
func eachFormPair(use func(a []int, b []int)) {
	for n, terms := range [][]int{allTerms(), {-30, -12, -7, -3, -2, -1, 1, 2, 3, 5, 6, 10}, {-10, -6, -3, -1, 1, 2, 5, 15}, {-15, -6, -2, 1, 3, 5, 10}} {
		forms := ascendingOf(n+1, terms)
		for _, a := range forms {
			for _, b := range forms {
				use(a, reversed(b))
			}
		}
	}
}

// formPlaces are the places that can tell forms apart, one at which each term is a unit, and the greatest one.
func formPlaces() []int {
	return []int{0, 2, 3, 5, 7, 11, 13, 17, 19, 23, 29, 31, 4999}
}

// termPrimes are the primes that divide a term of some form.
func termPrimes() []int {
	return primesTo(2, termMax)
}

func reversed(list []int) []int {
	list = slices.Clone(list)
	slices.Reverse(list)
	return list
}

func opposites(list []int) []int {
	list = slices.Clone(list)
	for i := range list {
		list[i] = -list[i]
	}
	return list
}

func ones(n int) []int {
	return slices.Repeat([]int{1}, n)
}

func productOf(list []int) int {
	product := 1
	for _, n := range list {
		product *= n
	}
	return product
}

func negativesOf(list []int) int {
	count := 0
	for _, n := range list {
		if n < 0 {
			count++
		}
	}
	return count
}

// coreOf divides by each square as often as it can be.
func coreOf(n int) int {
	for d := 2; d*d <= sizeOf(n); d++ {
		for divides(d*d, n) {
			n /= d * d
		}
	}
	return n
}

// coresOf lists the cores of some integers times another one.
func coresOf(list []int, n int) []int {
	cores := []int{}
	for _, term := range list {
		cores = append(cores, coreOf(term*n))
	}
	return cores
}

// placesOfForm lists 0, 2 and the odd primes that divide a term.
func placesOfForm(form []int) []int {
	list := []int{0, 2}
	for _, p := range primesTo(3, termMax) {
		if slices.ContainsFunc(form, func(term int) bool { return divides(p, term) }) {
			list = append(list, p)
		}
	}
	return list
}

// invariantOf multiplies the symbols of all pairs of terms.
func invariantOf(form []int, symbol func(a int, b int) int) int {
	product := 1
	for i := range form {
		for j := i + 1; j < len(form); j++ {
			product *= symbol(form[i], form[j])
		}
	}
	return product
}

// classTable tells the classes at a prime by their indexes among the names, and what forms of these names have as values.
type classTable struct {
	prime int
	names []int
	index map[int]int      // of the terms and names that were asked
	tried map[[4]int]bool  // by the indexes of the names, ascending, and -1 for none
	marks []map[[4]int]int // by the number of terms
}

func newClassTable(p int) *classTable {
	return &classTable{prime: p, names: namesOf(p), index: map[int]int{}, tried: map[[4]int]bool{}, marks: make([]map[[4]int]int, termsMax+1)}
}

func (c *classTable) classOf(n int) int {
	if class, ok := c.index[n]; ok {
		return class
	}
	square := squareJudge(c.prime)
	class := slices.IndexFunc(c.names, func(name int) bool { return square(n * name) })
	c.index[n] = class
	return class
}

func (c *classTable) classesOf(form []int) [4]int {
	classes := [4]int{-1, -1, -1, -1}
	for i, term := range form {
		classes[i] = c.classOf(term)
	}
	return classes
}

// vanishes tells whether a form vanishes at the prime, by a zero of the names of its terms. The square of an odd prime divides no name, and 4 none: so a zero up to the square, or up to 32, that the prime does not divide as a whole is lifted to all powers.
func (c *classTable) vanishes(form []int) bool {
	classes := c.classesOf(form)
	slices.Sort(classes[:len(form)])
	if known, ok := c.tried[classes]; ok {
		return known
	}
	names := []int{}
	for _, class := range classes[:len(form)] {
		names = append(names, c.names[class])
	}
	power := c.prime * c.prime
	if c.prime == 2 {
		power = 32
	}
	c.tried[classes] = zeroUpTo(names, c.prime, power)
	return c.tried[classes]
}

// zeroUpTo tells whether the value of a form is 0 up to a power of a prime at a vector that the prime does not divide as a whole. For each rest, it keeps whether one of the vectors that the prime divides has it, and one of the others.
func zeroUpTo(form []int, p int, power int) bool {
	divided, others := make([]bool, power), make([]bool, power)
	divided[0] = true
	for _, term := range form {
		dividedNext, othersNext := make([]bool, power), make([]bool, power)
		for x := 0; 2*x <= power; x++ {
			value := restOf(term*x*x, power)
			for r := range power {
				next := (r + value) % power
				othersNext[next] = othersNext[next] || others[r] || divided[r] && !divides(p, x)
				dividedNext[next] = dividedNext[next] || divided[r] && divides(p, x)
			}
		}
		divided, others = dividedNext, othersNext
	}
	return others[0]
}

// mark tells forms of as many terms apart that are not equal at the prime. Two terms a and b may be exchanged for t and a b t, if t is a value of both; and each form that is equal at the prime, written by names, is reached by doing so (Witt).
func (c *classTable) mark(form []int) int {
	n := len(form)
	if c.marks[n] == nil {
		c.marks[n] = map[[4]int]int{}
		for list := range listsOf(n, c.names) {
			c.spread(list, len(c.marks[n])+1)
		}
	}
	return c.marks[n][c.classesOf(form)]
}

// spread gives a mark to a form of names that has none, and to all that are reached from it.
func (c *classTable) spread(form []int, mark int) {
	marks := c.marks[len(form)]
	stack := [][]int{form}
	for len(stack) > 0 {
		list := stack[len(stack)-1]
		stack = stack[:len(stack)-1]
		if _, ok := marks[c.classesOf(list)]; ok {
			continue
		}
		marks[c.classesOf(list)] = mark
		for i := range list {
			for j := i + 1; j < len(list); j++ {
				for _, t := range c.names {
					if c.vanishes([]int{list[i], list[j], -t}) {
						next := slices.Clone(list)
						next[i], next[j] = t, c.names[c.classOf(list[i]*list[j]*t)]
						stack = append(stack, next)
					}
				}
			}
		}
	}
}

// formJudge tells of forms what the document says, by trying.
type formJudge struct {
	tables map[int]*classTable
}

func newFormJudge() *formJudge {
	return &formJudge{tables: map[int]*classTable{}}
}

func (j *formJudge) at(p int) *classTable {
	if j.tables[p] == nil {
		j.tables[p] = newClassTable(p)
	}
	return j.tables[p]
}

func (j *formJudge) vanishes(form []int, place int) bool {
	if place == 0 {
		return negativesOf(form) > 0 && negativesOf(form) < len(form)
	}
	return j.at(place).vanishes(form)
}

// alike needs two forms of as many terms.
func (j *formJudge) alike(a []int, b []int, place int) bool {
	if place == 0 {
		return negativesOf(a) == negativesOf(b)
	}
	return j.at(place).mark(a) == j.at(place).mark(b)
}

// same needs two forms of as many terms.
func (j *formJudge) same(a []int, b []int) bool {
	if !j.alike(a, b, 0) || coreOf(productOf(a)) != coreOf(productOf(b)) {
		return false
	}
	for _, p := range termPrimes() {
		if !j.alike(a, b, p) {
			return false
		}
	}
	return true
}

// noComponents are integers that FormValue does not take for one of a vector.
func noComponents() []int {
	return []int{1001, -1001, 1002, 5000, -5000, 1 << 16, 1 << 32, 1<<32 + 1, math.MaxInt, math.MinInt, math.MinInt + 1}
}

// eachLimitVector calls a function for vectors of -1 but for one integer, near or beyond the limits of FormValue, and tells whether it is in range.
func eachLimitVector(n int, use func(v []int, x int, inRange bool)) {
	for i := range n {
		for _, x := range append(noComponents(), 1000, -1000, 999, 0) {
			v := slices.Repeat([]int{-1}, n)
			v[i] = x
			use(v, x, x >= -vectorMax && x <= vectorMax)
		}
	}
}

func mustSigns(t *testing.T, form []int) int {
	t.Helper()
	signs, ok := impl.FormSigns(form)
	if !ok {
		t.Fatalf("FormSigns(%v) failed", form)
	}
	return signs
}

func mustValue(t *testing.T, form []int, v []int) int {
	t.Helper()
	value, ok := impl.FormValue(form, v)
	if !ok {
		t.Fatalf("FormValue(%v, %v) failed", form, v)
	}
	return value
}

func mustCores(t *testing.T, form []int) []int {
	t.Helper()
	cores, ok := impl.FormCores(form)
	if !ok || len(cores) != len(form) {
		t.Fatalf("FormCores(%v) is %v, %t", form, cores, ok)
	}
	return cores
}
