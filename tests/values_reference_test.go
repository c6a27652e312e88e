package tests

import (
	"math"
	"slices"
	"testing"

	"loop.example/localglobal/impl"
)

// The greatest size of a number of which ValueMany counts the vectors; that of their integers is manyMax.
const countedMax = 1000

// represents tells whether a form represents a number at a place: by the signs of its terms, or by trying all vectors of the form with a further term.
func (j *formJudge) represents(form []int, t int, place int) bool {
	if place == 0 {
		return slices.ContainsFunc(form, func(term int) bool { return term*t > 0 })
	}
	return len(form) == termsMax || j.vanishes(append(slices.Clone(form), -t), place)
}

// bad lists the places at which a form does not represent a number, of its own ones and the odd primes that divide the number.
func (j *formJudge) bad(form []int, t int) []int {
	places := append(placesOfForm(form), placesOf(t)...)
	slices.Sort(places)
	bad := []int{}
	for _, place := range slices.Compact(places) {
		if !j.represents(form, t, place) {
			bad = append(bad, place)
		}
	}
	return bad
}

// planes takes planes away from a form, as often as it can. At 0, each one takes the least and the greatest term. At a prime, a form of names is left that, with 1 and -1, is equal to the form.
func (j *formJudge) planes(form []int, place int) int {
	if !j.vanishes(form, place) {
		return 0
	}
	if len(form) == 2 {
		return 1
	}
	if place == 0 {
		sorted := slices.Sorted(slices.Values(form))
		return 1 + j.planes(sorted[1:len(sorted)-1], place)
	}
	for rest := range listsOf(len(form)-2, j.at(place).names) {
		if j.alike(form, append([]int{1, -1}, rest...), place) {
			return 1 + j.planes(rest, place)
		}
	}
	return 0
}

// planesEverywhere looks at all primes that can divide a term, not only at those that do.
func (j *formJudge) planesEverywhere(form []int) int {
	least := j.planes(form, 0)
	for _, p := range termPrimes() {
		least = min(least, j.planes(form, p))
	}
	return least
}

// restsOf lists the terms, without those that squares divide, that are left of a form of three terms without the plane 1 and -1.
func (j *formJudge) restsOf(form []int) []int {
	rests := []int{}
	for _, term := range allTerms() {
		if coreOf(term) == term && j.same(form, []int{1, -1, term}) {
			rests = append(rests, term)
		}
	}
	return rests
}

// witt tells of two forms whether they are equal as soon as the shorter one has as many planes more as it needs.
func (j *formJudge) witt(a []int, b []int) bool {
	if len(a)+len(b) > termsMax || !divides(2, len(a)+len(b)) {
		return false
	}
	for len(a) < len(b) {
		a = append(slices.Clone(a), 1, -1)
	}
	for len(b) < len(a) {
		b = append(slices.Clone(b), 1, -1)
	}
	return j.same(a, b)
}

// reachedAt lists the names of the classes that the values of a form of names at a prime have, by the rests of the values at all vectors up to a power: where a rest is not divided too often, it tells the class.
func reachedAt(form []int, p int) []int {
	power, dark := p*p*p, p*p*p
	if p == 2 {
		power, dark = 128, 32
	}
	rests := make([]bool, power)
	rests[0] = true
	for _, term := range form {
		next := make([]bool, power)
		for r, is := range rests {
			for x := 0; is && 2*x <= power; x++ {
				next[restOf(r+term*x*x, power)] = true
			}
		}
		rests = next
	}
	square := squareJudge(p)
	reached := []int{}
	for _, name := range namesOf(p) {
		for r, is := range rests {
			if is && !divides(dark, r) && square(r*name) {
				reached = append(reached, name)
				break
			}
		}
	}
	return reached
}

// nameForms lists forms of names at a prime, each in one order alone.
func nameForms(p int, count int) [][]int {
	return ascendingOf(count, slices.Sorted(slices.Values(namesOf(p))))
}

// shownNames leaves out the names that are too great.
func shownNames(names []int) []int {
	return slices.DeleteFunc(slices.Clone(names), func(name int) bool { return sizeOf(name) > termMax })
}

// foundOf tells which vector and denominator ValueFind is to return, or nothing.
func foundOf(form []int, t int) ([]int, int) {
	n := len(form)
	if n == termsMax {
		return nil, 0
	}
	zero := findOf(form)
	if zero == nil {
		longer := findOf(append(slices.Clone(form), -t))
		if longer == nil {
			return nil, 0
		}
		return lowestTerms(longer[:n], longer[n])
	}
	i := axisOf(zero)
	b := 2 * form[i] * zero[i]
	v := sumOf(timesAll(zero, t-form[i]), timesAll(unitOf(n, i), b))
	return lowestTerms(v, b)
}

// lowestTerms needs a denominator that is not 0.
func lowestTerms(v []int, d int) ([]int, int) {
	divisor := divisorOf(append(slices.Clone(v), d)...)
	if d < 0 {
		divisor = -divisor
	}
	v = slices.Clone(v)
	for i := range v {
		v[i] /= divisor
	}
	return v, d / divisor
}

// countsOf tells how often a form has each value at the vectors with integers of at most a size, by adding one more term to all values.
func countsOf(form []int, size int) map[int]int {
	counts := map[int]int{0: 1}
	for _, term := range form {
		longer := map[int]int{}
		for value, count := range counts {
			for x := -size; x <= size; x++ {
				longer[value+term*(x*x)] += count
			}
		}
		counts = longer
	}
	return counts
}

// noValues are integers that no function takes for a number that a form represents.
func noValues() []int {
	return noTerms()
}

// noCounted are integers of which ValueMany counts no vectors.
func noCounted() []int {
	return append(noNumbers(), countedMax+1, -countedMax-1, countedMax+2, -countedMax-2, 1024, 1025, 1<<16+1, 1<<32+1)
}

// noSizes are integers that ValueMany does not take for a size.
func noSizes() []int {
	return []int{0, -1, -2, -6, manyMax + 1, manyMax + 2, 2 * manyMax, 1000, 1 << 32, 1<<32 + 1, -1 << 32, math.MaxInt, math.MinInt, math.MinInt + 1}
}

// longForms are forms of four terms: with no plane, one and two at 2, at 3 and at 5, with both signs and with one, with units alone and with primes.
func longForms() [][]int {
	return [][]int{
		{1, 1, 1, 1}, {-1, -1, -1, -1}, {1, 1, 1, -1}, {1, -1, 1, -1}, {1, 1, 1, 7}, {1, 1, 1, -7}, {1, 1, -3, -3}, {1, 1, 3, 3}, {1, -2, 3, -6}, {1, -2, -5, 10}, {1, -3, -5, 15}, {3, -9, -15, 5}, {30, 30, 30, 30}, {30, -30, 29, -29}, {2, 3, 5, 7}, {-2, -3, -5, -7}, {2, 3, -5, -30}, {28, 28, 7, 7}, {1, 1, 11, 11}, {1, 1, 2, -2}, {5, 1, 1, -1}, {23, -29, 19, 17},
	}
}

func mustFound(t *testing.T, form []int, n int) ([]int, int) {
	t.Helper()
	v, d, ok := impl.ValueFind(form, n)
	if !ok || len(v) != len(form) {
		t.Fatalf("ValueFind(%v, %d) is %v, %d, %t", form, n, v, d, ok)
	}
	return v, d
}
