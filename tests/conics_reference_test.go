package tests

import (
	"math"
	"slices"
	"testing"

	"loop.example/localglobal/impl"
)

// The limits of the chapter on conics and triples.
const (
	conicMax     = 1000
	directionMax = 20
	metMax       = 5
	tripleMax    = 100000
	makeMax      = 316
	triplesInAll = 15919
)

// within tells of a list whether it has so many integers, none beyond a limit.
func within(v []int, n int, limit int) bool {
	return len(v) == n && !slices.ContainsFunc(v, func(x int) bool { return x < -limit || x > limit })
}

// divisorOf is the greatest integer that divides all of a list, by Euclid: plainOf, which tries all, is slow where integers are great.
func divisorOf(list ...int) int {
	d := 0
	for _, n := range list {
		for n != 0 {
			d, n = n, d%n
		}
	}
	return sizeOf(d)
}

// lowestOf is plainOf for a vector of great integers, not all 0.
func lowestOf(v []int) []int {
	d := divisorOf(v...)
	if first := slices.IndexFunc(v, func(x int) bool { return x != 0 }); v[first] < 0 {
		d = -d
	}
	v = slices.Clone(v)
	for i := range v {
		v[i] /= d
	}
	return v
}

func isPoint(form []int, v []int) bool {
	return len(form) == 3 && isForm(form) && within(v, 3, conicMax) && isZero(form, v) && slices.Equal(plainOf(v), v)
}

// determinantOf is that of three rows.
func determinantOf(u []int, v []int, w []int) int {
	return u[0]*(v[1]*w[2]-v[2]*w[1]) - u[1]*(v[0]*w[2]-v[2]*w[0]) + u[2]*(v[0]*w[1]-v[1]*w[0])
}

// isMultiple tells of a vector whether it is a multiple of a plain one.
func isMultiple(w []int, v []int) bool {
	return v[1]*w[2] == v[2]*w[1] && v[0]*w[2] == v[2]*w[0] && v[0]*w[1] == v[1]*w[0]
}

func axisOf(v []int) int {
	return slices.IndexFunc(v, func(x int) bool { return x != 0 })
}

// directionOf puts 0 at the axis of a point, and two integers at the other places.
func directionOf(v []int, s int, t int) []int {
	return slices.Insert([]int{s, t}, axisOf(v), 0)
}

// lineOf is the plain zero that the line through a point in a direction, no multiple, meets once more: at x times the point and y times the direction, the value is y times (2 b x + q y), and 2 b is told by the value at the sum of both.
func lineOf(form []int, v []int, w []int) []int {
	q := valueOf(form, w, w)
	sum := sumOf(v, w)
	twice := valueOf(form, sum, sum) - q
	return lowestOf(sumOf(timesAll(v, q), timesAll(w, -twice)))
}

// otherOf tells what ConicOther is to return for a point, or nothing.
func otherOf(form []int, v []int, w []int) []int {
	if !within(w, 3, directionMax) || isMultiple(w, v) {
		return nil
	}
	zero := lineOf(form, v, w)
	if heightOf(zero) > zeroMax {
		return nil
	}
	return zero
}

// atOf tells what ConicAt is to return for a point, or nothing.
func atOf(form []int, v []int, s int, t int) []int {
	if !within([]int{s, t}, 2, directionMax) || s == 0 && t == 0 {
		return nil
	}
	return otherOf(form, v, directionOf(v, s, t))
}

// plainHeadings lists the plain headings of integers of at most a size.
func plainHeadings(size int) [][]int {
	list := [][]int{}
	for h := range listsOf(2, sizesTo(size)) {
		if (h[0] != 0 || h[1] != 0) && slices.Equal(plainOf(h), h) {
			list = append(list, h)
		}
	}
	return list
}

// metBy counts the zeros that ConicAt is to meet for all plain headings of integers of at most a size.
func metBy(form []int, v []int, size int) int {
	met := map[[3]int]bool{}
	for _, h := range plainHeadings(size) {
		if zero := atOf(form, v, h[0], h[1]); zero != nil {
			met[[3]int(zero)] = true
		}
	}
	return len(met)
}

// farPoints are points with an integer at ConicMax, or near to it, and some others of great integers.
func farPoints() []struct{ form, v []int } {
	return []struct{ form, v []int }{
		{[]int{-5, 7, 17}, []int{1000, -801, 173}},
		{[]int{-7, 17, 23}, []int{1000, 211, 521}},
		{[]int{17, -7, 23}, []int{211, 1000, 521}},
		{[]int{17, 23, -7}, []int{211, -521, 1000}},
		{[]int{17, 23, -7}, []int{211, 521, -1000}},
		{[]int{-1, 3, 13}, []int{1000, -29, 277}},
		{[]int{-13, -23, 29}, []int{999, -212, 695}},
		{[]int{-7, 7, -1}, []int{339, -347, 196}},
		{[]int{-2, -30, 17}, []int{173, -25, 68}},
	}
}

// noPoints are a form and a vector each of which ConicPoint does not hold.
func noPoints() []struct{ form, v []int } {
	list := []struct{ form, v []int }{
		{[]int{-30, -3, 30}, []int{999, -200, 1001}},
		{[]int{-30, 3, 30}, []int{1001, 200, 999}},
		{[]int{3, -30, 30}, []int{200, -1001, 999}},
		{[]int{-3, 1, -13}, []int{3, -220, 62}},
		{[]int{1, 1, -1}, []int{0, 0, 0}},
		{[]int{1, 1, -1}, []int{0, 0, 1}}, // No zero has its axis at the third place.
		{[]int{1, 1, -1}, []int{0, 0, -1}},
		{[]int{30, 30, 1}, []int{0, 0, 1}},
		{[]int{1, 1, -1}, []int{1, 1, 1}},
		{[]int{1, 1, -1}, []int{6, 8, 10}},
		{[]int{1, 1, -1}, []int{0, 2, 2}},
		{[]int{1, 1, -1}, []int{-3, 4, 5}},
		{[]int{1, 1, -1}, []int{0, -1, 1}},
		{[]int{1, 1, -1}, []int{-1, 0, 1}},
		{[]int{1, 1, -1}, nil},
		{[]int{1, 1, -1}, []int{1, 0}},
		{[]int{1, 1, -1}, []int{1, 0, 1, 0}},
		{[]int{1, -1}, []int{1, 1}},
		{[]int{1, -1}, []int{1, 1, 0}},
		{[]int{1, -1, 1, -1}, []int{1, 1, 0, 0}},
		{[]int{1, -1, 1, -1}, []int{1, 1, 0}},
		{[]int{1}, []int{0, 0, 1}},
		{[]int{31, -31, 1}, []int{1, 1, 0}},
		{[]int{1, -1, 0}, []int{1, 1, 0}},
		{[]int{0, 0, 0}, []int{1, 1, 1}},
		{[]int{1, -1, 1, -1, 1}, []int{1, 1, 0, 0, 0}},
	}
	for _, form := range noForms() {
		list = append(list, struct{ form, v []int }{form, []int{1, 1, 0}}, struct{ form, v []int }{form, []int{1, 0, 1}})
	}
	for _, x := range noZeroComponents() {
		list = append(list, struct{ form, v []int }{[]int{1, -1, 2}, []int{x, x, 0}}, struct{ form, v []int }{[]int{2, 1, -1}, []int{0, x, 1}}, struct{ form, v []int }{[]int{2, 1, -1}, []int{1, 1, x}})
	}
	return list
}

// conicForms are forms of three terms, many of them with primes in common or with terms that squares divide.
func conicForms() [][]int {
	forms := [][]int{}
	for form := range listsOf(3, []int{-30, -18, -12, -7, -4, -3, -1, 1, 2, 5, 6, 10, 15, 27, 29}) {
		if negativesOf(form)%3 != 0 {
			forms = append(forms, form)
		}
	}
	return forms
}

// smallZeros lists all plain zeros of a form with integers of at most a size.
func smallZeros(form []int, size int) [][]int {
	zeros := [][]int{}
	for v := range listsOf(len(form), sizesTo(size)) {
		if isZero(form, v) && slices.Equal(plainOf(v), v) {
			zeros = append(zeros, v)
		}
	}
	return zeros
}

// eachPoint calls a function for many points: small ones, those that lines lead to from one of them, and far ones.
func eachPoint(use func(form []int, v []int)) {
	for _, form := range conicForms() {
		zeros := smallZeros(form, 3)
		if v := findOf(form); v != nil {
			zeros = append(zeros, v)
		}
		for i, v := range zeros {
			use(form, v)
			if i%4 != 0 {
				continue
			}
			for _, w := range [][]int{{3, -7, 1}, {-5, 2, 11}} {
				if isMultiple(w, v) {
					continue
				}
				if z := lineOf(form, v, w); heightOf(z) <= conicMax {
					use(form, z)
				}
			}
		}
	}
	for _, c := range farPoints() {
		use(c.form, c.v)
	}
}

func mustOther(t *testing.T, form []int, v []int, w []int) []int {
	t.Helper()
	zero, ok := impl.ConicOther(form, v, w)
	if !ok || len(zero) != 3 {
		t.Fatalf("ConicOther(%v, %v, %v) is %v, %t", form, v, w, zero, ok)
	}
	return zero
}

func mustBack(t *testing.T, form []int, v []int, z []int) (int, int) {
	t.Helper()
	x, y, ok := impl.ConicBack(form, v, z)
	if !ok {
		t.Fatalf("ConicBack(%v, %v, %v) failed", form, v, z)
	}
	return x, y
}

// isTriple tells what the document says of three integers.
func isTriple(t [3]int) bool {
	for _, x := range t {
		if x < 1 || x > tripleMax {
			return false
		}
	}
	return t[0]*t[0]+t[1]*t[1] == t[2]*t[2] && !divides(2, t[0]) && divides(2, t[1]) && divisorOf(t[:]...) == 1
}

// treeTriple is a triple with the one from which it was made, as its k-th child, and how many children lead to it.
type treeTriple struct {
	triple, parent [3]int
	k, depth       int
}

// childOf makes a child without m and n: of these, all three integers are sums of squares and products, so that sums of multiples of the integers of a triple make those of the child.
func childOf(t [3]int, k int) [3]int {
	a, b, c := t[0], t[1], t[2]
	switch k {
	case 0:
		b = -b
	case 2:
		a = -a
	}
	return [3]int{a + 2*b + 2*c, 2*a + b + 2*c, 2*a + 2*b + 3*c}
}

// treeTriples makes all triples from 3, 4 and 5.
func treeTriples() []treeTriple {
	list := []treeTriple{{triple: [3]int{3, 4, 5}, k: -1}}
	for i := 0; i < len(list); i++ {
		from := list[i]
		for k := range 3 {
			if child := childOf(from.triple, k); child[2] <= tripleMax {
				list = append(list, treeTriple{child, from.triple, k, from.depth + 1})
			}
		}
	}
	return list
}

// noTriples are integers that no function takes for a triple.
func noTriples() [][3]int {
	list := [][3]int{
		{4, 3, 5}, {8, 15, 17}, {12, 5, 13}, {6, 8, 10}, {8, 6, 10}, {9, 12, 15}, {15, 20, 25}, {27, 36, 45}, {15, 36, 39}, {24, 10, 26},
		{5, 4, 3}, {5, 3, 4}, {3, 5, 4}, {4, 5, 3}, {3, 4, 4}, {3, 4, 6}, {1, 1, 1}, {5, 5, 5}, {3, 4, 7}, {9, 16, 25}, {9, 16, 5},
		{0, 0, 0}, {1, 0, 1}, {0, 1, 1}, {0, 4, 4}, {3, 4, 0}, {-3, 4, 5}, {3, -4, 5}, {3, 4, -5}, {-3, -4, -5}, {-1, 0, 1}, {-4, 3, 5},
		{63571, 77220, 100021}, {74029, 67260, 100021}, {88473, 46664, 100025}, {99687, 8216, 100025}, {99999, 31360, 104801}, {60000, 80000, 100000}, {28000, 96000, 100000}, {100000, 100000, 100000},
		{100003, 4, 5}, {3, 100004, 5}, {3, 4, 100005}, {200001, 20000200000, 20000200001}, {449, 100800, 100801},
		{math.MinInt + 3, 4, 5}, {3, math.MinInt + 4, 5}, {3, 4, math.MinInt + 5}, {math.MinInt + 3, math.MinInt + 4, math.MinInt + 5},
		{math.MaxInt, math.MaxInt, math.MaxInt}, {math.MinInt, math.MinInt, math.MinInt}, {1, 1 << 32, 1}, {1 << 32, 1 << 32, 1 << 32}, {1, math.MinInt, 1}, {3, 4 + 1<<62, 5},
	}
	for _, x := range noNumbers() {
		if x < 1 || x > tripleMax {
			list = append(list, [3]int{x, 4, 5}, [3]int{3, x, 5}, [3]int{3, 4, x}, [3]int{x, x, x})
		}
	}
	return list
}
