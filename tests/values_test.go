package tests

import (
	"slices"
	"testing"

	"loop.example/localglobal/impl"
)

func TestValueAt(t *testing.T) {
	judge := newFormJudge()
	for _, place := range []int{0, 2, 3, 5, 7, 13, 29, 31} {
		for form := range fewForms() {
			for _, n := range mostTerms() {
				if got, want := impl.ValueAt(form, n, place), judge.represents(form, n, place); got != want {
					t.Errorf("ValueAt(%v, %d, %d) is %t", form, n, place, got)
				}
			}
		}
	}
	for _, place := range append([]int{0}, termPrimes()...) {
		for form := range listsOf(2, mostTerms()) {
			for _, n := range allTerms() {
				if got, want := impl.ValueAt(form, n, place), judge.represents(form, n, place); got != want {
					t.Errorf("ValueAt(%v, %d, %d) is %t", form, n, place, got)
				}
			}
		}
	}
}

// TestValueAtWithFourTerms looks at 0, where signs alone decide, and at primes, where a form without any plane represents all, too.
func TestValueAtWithFourTerms(t *testing.T) {
	for _, form := range longForms() {
		for _, n := range allTerms() {
			want := n > 0 && slices.Max(form) > 0 || n < 0 && slices.Min(form) < 0
			if got := impl.ValueAt(form, n, 0); got != want {
				t.Errorf("ValueAt(%v, %d, 0) is %t", form, n, got)
			}
			for _, p := range append(primesTo(2, 31), 4987, 4993, 4999) {
				if !impl.ValueAt(form, n, p) {
					t.Errorf("ValueAt(%v, %d, %d) fails", form, n, p)
				}
			}
		}
	}
	// Of the names at a prime, each is a value of the first two terms that is made up for by the other two.
	judge := newFormJudge()
	for _, p := range []int{2, 3, 5, 7} {
		for _, form := range longForms() {
			for _, name := range namesOf(p) {
				made := slices.ContainsFunc(namesOf(p), func(s int) bool {
					return judge.vanishes([]int{form[0], form[1], -s}, p) && judge.vanishes([]int{form[2], form[3], s, -name}, p)
				})
				if !made || !impl.ValueAt(form, name, p) {
					t.Errorf("ValueAt(%v, %d, %d) is %t", form, name, p, impl.ValueAt(form, name, p))
				}
			}
		}
	}
}

// TestValueAtGreatPrimes takes primes that divide no term: there a form of one term has the values of one class, and longer ones have all units.
func TestValueAtGreatPrimes(t *testing.T) {
	for _, p := range primesTo(31, numberMax) {
		roots := rootTable(p)
		for _, form := range [][]int{{1}, {-30}, {29}, {1, 1}, {29, -7}, {-30, -30}, {1, 1, 1}, {-30, 29, 23}} {
			for _, n := range []int{-30, -29, -23, -2, -1, 1, 2, 3, 5, 7, 15, 30} {
				want := len(form) > 1 || legendre(form[0]*n, p, roots) == 1
				if got := impl.ValueAt(form, n, p); got != want {
					t.Errorf("ValueAt(%v, %d, %d) is %t", form, n, p, got)
				}
			}
		}
	}
}

func TestValueBad(t *testing.T) {
	judge := newFormJudge()
	for form := range fewForms() {
		for _, n := range mostTerms() {
			want := judge.bad(form, n)
			if got := impl.ValueBad(form, n); !slices.Equal(got, want) {
				t.Errorf("ValueBad(%v, %d) is %v, not %v", form, n, got, want)
			}
			if got := impl.ValueEverywhere(form, n); got != (len(want) == 0) {
				t.Errorf("ValueEverywhere(%v, %d) is %t, and not so at %v", form, n, got, want)
			}
		}
	}
	for n, terms := range [][]int{allTerms(), mostTerms()} {
		for form := range listsOf(n+1, terms) {
			for _, n := range allTerms() {
				want := judge.bad(form, n)
				if got := impl.ValueBad(form, n); !slices.Equal(got, want) || impl.ValueEverywhere(form, n) != (len(want) == 0) {
					t.Errorf("ValueBad(%v, %d) is %v, not %v, and ValueEverywhere %t", form, n, got, want, impl.ValueEverywhere(form, n))
				}
			}
		}
	}
}

func TestValueBadOfSomeNumbers(t *testing.T) {
	for _, c := range []struct {
		form []int
		n    int
		want []int
	}{
		// One term has the numbers of one class alone.
		{[]int{1}, 1, nil}, {[]int{1}, 4, nil}, {[]int{1}, 25, nil}, {[]int{2}, 18, nil}, {[]int{-27}, -3, nil}, {[]int{27}, -3, []int{0, 2, 3}}, {[]int{1}, -1, []int{0, 2}}, {[]int{1}, 29, []int{2, 29}}, {[]int{1}, 17, []int{17}}, {[]int{-15}, 1, []int{0, 3, 5}}, {[]int{1}, 2, []int{2}}, {[]int{30}, 30, nil},
		// Odd primes that divide the number alone.
		{[]int{1, 1}, 3, []int{2, 3}}, {[]int{1, 1}, 7, []int{2, 7}}, {[]int{1, 1}, 21, []int{3, 7}}, {[]int{1, 1}, -21, []int{0, 2, 3, 7}}, {[]int{1, 1}, 9, nil}, {[]int{1, 1}, 27, []int{2, 3}}, {[]int{1, 1}, 29, nil}, {[]int{1, 1}, 30, []int{2, 3}}, {[]int{1, 1}, -30, []int{0, 3}}, {[]int{1, 2}, 5, []int{2, 5}}, {[]int{1, 2}, 11, nil}, {[]int{1, -2}, 7, nil}, {[]int{1, -2}, 15, []int{3, 5}},
		{[]int{1, 1}, -1, []int{0, 2}}, {[]int{1, 1}, -3, []int{0, 3}}, {[]int{3, 3}, 1, []int{2, 3}}, {[]int{3, 3}, 6, nil}, {[]int{1, -1}, 29, nil}, {[]int{1, -1}, -30, nil},
		{[]int{1, 1, 1}, 7, []int{2}}, {[]int{1, 1, 1}, 15, []int{2}}, {[]int{1, 1, 1}, 28, []int{2}}, {[]int{1, 1, 1}, -1, []int{0, 2}}, {[]int{1, 1, 1}, -30, []int{0}}, {[]int{1, 1, 1}, 14, nil}, {[]int{1, 1, 1}, 30, nil}, {[]int{1, 1, 3}, 6, []int{3}}, {[]int{1, 1, 3}, -6, []int{0}}, {[]int{1, 1, 3}, 15, []int{3}}, {[]int{1, 1, -1}, 29, nil},
		{[]int{1, 1, 1, 1}, -1, []int{0}}, {[]int{1, 1, 1, 1}, 7, nil}, {[]int{-1, -1, -1, -1}, 30, []int{0}}, {[]int{-1, -1, -1, -1}, -30, nil}, {[]int{1, 1, 1, -1}, -30, nil}, {[]int{1, 1, -3, -3}, 29, nil},
	} {
		if got := impl.ValueBad(c.form, c.n); !slices.Equal(got, c.want) {
			t.Errorf("ValueBad(%v, %d) is %v, not %v", c.form, c.n, got, c.want)
		}
		if got := impl.ValueEverywhere(c.form, c.n); got != (len(c.want) == 0) {
			t.Errorf("ValueEverywhere(%v, %d) is %t", c.form, c.n, got)
		}
	}
}

// expectValue checks ValueFind for any form and number in its range, and tells whether it succeeds.
func expectValue(t *testing.T, form []int, n int) bool {
	t.Helper()
	want, wantDen := foundOf(form, n)
	v, d, ok := impl.ValueFind(form, n)
	if !slices.Equal(v, want) || d != wantDen || ok != (want != nil) {
		t.Errorf("ValueFind(%v, %d) is %v, %d, %t, not %v, %d", form, n, v, d, ok, want, wantDen)
	}
	return ok
}

func TestValueFind(t *testing.T) {
	for n, terms := range [][]int{allTerms(), mostTerms(), {-30, -21, -7, -2, -1, 1, 3, 6, 10}, {-30, -1, 1, 5}} {
		found, failed := 0, 0
		for form := range listsOf(n+1, terms) {
			for _, n := range mostTerms() {
				if expectValue(t, form, n) {
					found++
				} else {
					failed++
				}
			}
		}
		if failed == 0 || (found == 0) != (n+1 == termsMax) {
			t.Errorf("ValueFind of %d terms succeeds %d times, and fails %d times", n+1, found, failed)
		}
	}
	for _, form := range [][]int{{1, 1}, {1, -1}, {-1, 1}, {2, -2}, {-30, 30}, {4, -9}, {-8, 18}, {1, 1, 1}, {1, 1, -1}, {-1, 1, 1}, {5, 1, -1}, {5, -1, 1}, {7, -4, 9}, {30, -29, -1}, {3, 3, 3}, {-3, -3, -3}, {1, 2, 5}} {
		for _, n := range allTerms() {
			expectValue(t, form, n)
		}
	}
}

func TestValueFindOfSomeNumbers(t *testing.T) {
	for _, c := range []struct {
		form []int
		n    int
		v    []int
		d    int
	}{
		// One term has no zero.
		{[]int{1}, 9, []int{3}, 1}, {[]int{4}, 1, []int{1}, 2}, {[]int{9}, 4, []int{2}, 3}, {[]int{-2}, -18, []int{3}, 1}, {[]int{30}, 30, []int{1}, 1}, {[]int{1}, -1, nil, 0}, {[]int{1}, 2, nil, 0},
		{[]int{1, 1}, 5, []int{1, 2}, 1}, {[]int{1, 1}, 3, nil, 0}, {[]int{1, 1}, -5, nil, 0},
		// There is a zero; vector and denominator have the common factors 1, 2 and 4.
		{[]int{1, -1}, 2, []int{3, 1}, 2}, {[]int{1, -1}, 3, []int{2, 1}, 1}, {[]int{1, -1}, 1, []int{1, 0}, 1}, {[]int{1, -1}, -1, []int{0, -1}, 1}, {[]int{2, -2}, 6, []int{2, 1}, 1}, {[]int{1, -1}, 30, []int{31, 29}, 2},
		// The denominator would be less than 0.
		{[]int{-1, 1}, 2, []int{-1, -3}, 2}, {[]int{-1, 1}, -1, []int{1, 0}, 1}, {[]int{-30, 30}, 30, []int{0, -1}, 1}, {[]int{-1, 1}, 3, []int{-1, -2}, 1},
		// The zero is 0, 1 and 1.
		{[]int{5, 1, -1}, 3, []int{0, 2, 1}, 1}, {[]int{5, -1, 1}, 3, []int{0, -1, -2}, 1}, {[]int{7, 1, -1}, 7, []int{0, 4, 3}, 1}, {[]int{5, 1, -1}, 1, []int{0, 1, 0}, 1},
		{[]int{1, 1, -1}, 7, []int{0, 4, 3}, 1},
		{[]int{1, 1, 1}, 14, []int{1, 2, 3}, 1}, {[]int{1, 1, 1}, 7, nil, 0}, {[]int{1, 1, 1}, -1, nil, 0}, {[]int{1, 1, 3}, 6, nil, 0},
		{[]int{1, 1, 1, 1}, 1, nil, 0}, {[]int{1, -1, 1, -1}, 1, nil, 0},
	} {
		if v, d, ok := impl.ValueFind(c.form, c.n); !slices.Equal(v, c.v) || d != c.d || ok != (c.v != nil) {
			t.Errorf("ValueFind(%v, %d) is %v, %d, %t, not %v, %d", c.form, c.n, v, d, ok, c.v, c.d)
		}
	}
}

func TestValueMany(t *testing.T) {
	numbers := append(sizesTo(termMax), -1000, -999, -961, -500, -216, -36, 36, 45, 100, 216, 250, 625, 648, 720, 961, 972, 999, 1000)
	for _, form := range [][]int{{1}, {-1}, {4}, {27}, {30}, {1, 1}, {1, -1}, {-30, 29}, {2, 3}, {10, 10}, {-25, -15}, {1, 1, 1}, {1, 1, -2}, {-3, 5, 7}, {30, 30, -30}, {9, -16, 25}} {
		for size := 1; size <= manyMax; size++ {
			counts := countsOf(form, size)
			for _, n := range numbers {
				if got := impl.ValueMany(form, n, size); got != counts[n] {
					t.Errorf("ValueMany(%v, %d, %d) is %d, not %d", form, n, size, got, counts[n])
				}
			}
		}
	}
	for _, form := range longForms() {
		for _, size := range []int{1, 2, manyMax} {
			counts := countsOf(form, size)
			for _, n := range []int{-1000, -30, -1, 0, 1, 7, 30, 144, 1000} {
				if got := impl.ValueMany(form, n, size); got != counts[n] {
					t.Errorf("ValueMany(%v, %d, %d) is %d, not %d", form, n, size, got, counts[n])
				}
			}
		}
	}
}

func TestValueManyLimits(t *testing.T) {
	for _, c := range []struct {
		form          []int
		n, size, want int
	}{
		{[]int{1, 1}, 5, 1, 0}, {[]int{1, 1}, 5, 2, 8}, {[]int{1, 1}, 0, 6, 1}, {[]int{1, -1}, 0, 1, 5}, {[]int{1, -1}, 0, 6, 25}, {[]int{1}, 0, 1, 1}, {[]int{1}, 36, 6, 2}, {[]int{1}, 36, 5, 0}, {[]int{1}, 49, 6, 0},
		{[]int{10, 10}, 1000, 6, 0}, {[]int{30, 10}, 1000, 6, 4}, {[]int{-30, -10}, -1000, 6, 4}, {[]int{-30, -10}, 1000, 6, 0}, {[]int{30, 30, -20}, 1000, 6, 32}, {[]int{1, 1, 1, 1}, 1, 1, 8}, {[]int{1, 1, 1, 1}, 144, 6, 16}, {[]int{1, 1, 1, 1}, 1, 7, -1}, {[]int{1, 1, 1, 1}, 1, 0, -1},
		{[]int{30, 10}, 1001, 6, -1}, {[]int{-30, -10}, -1001, 6, -1}, {[]int{30, 30}, 1080, 6, -1}, {[]int{1}, 4, 6, 2}, {[]int{1}, 4, 7, -1}, {[]int{1}, 1, 1, 2}, {[]int{1}, 1, 0, -1},
	} {
		if got := impl.ValueMany(c.form, c.n, c.size); got != c.want || got >= 0 && got != countsOf(c.form, c.size)[c.n] {
			t.Errorf("ValueMany(%v, %d, %d) is %d, not %d", c.form, c.n, c.size, got, c.want)
		}
	}
	for _, form := range [][]int{{1}, {1, -1}, {1, 1, -1}, {1, 1, 1, 1}} {
		for _, n := range noCounted() {
			for _, size := range []int{1, manyMax} {
				if got := impl.ValueMany(form, n, size); got != -1 {
					t.Errorf("ValueMany(%v, %d, %d) is %d", form, n, size, got)
				}
			}
		}
		for _, size := range noSizes() {
			for _, n := range []int{0, 1, -1000, 1000} {
				if got := impl.ValueMany(form, n, size); got != -1 {
					t.Errorf("ValueMany(%v, %d, %d) is %d", form, n, size, got)
				}
			}
		}
	}
}

func TestPlanesAt(t *testing.T) {
	judge := newFormJudge()
	planes := map[int]int{}
	for _, place := range []int{0, 2, 3, 5, 7, 11, 29, 31} {
		for form := range fewForms() {
			got, want := impl.PlanesAt(form, place), judge.planes(form, place)
			if got != want {
				t.Errorf("PlanesAt(%v, %d) is %d, not %d", form, place, got, want)
			}
			if len(form) == 4 && place > 0 {
				planes[want]++
			}
		}
	}
	if planes[0] == 0 || planes[1] == 0 || planes[2] == 0 {
		t.Errorf("the numbers of forms of four terms by their planes are %v", planes)
	}
	for _, form := range longForms() {
		for _, place := range append([]int{0}, termPrimes()...) {
			if got, want := impl.PlanesAt(form, place), judge.planes(form, place); got != want {
				t.Errorf("PlanesAt(%v, %d) is %d, not %d", form, place, got, want)
			}
		}
	}
}

func TestPlanesAtSomePlaces(t *testing.T) {
	for _, c := range []struct {
		form        []int
		place, want int
	}{
		{[]int{1}, 0, 0}, {[]int{1}, 2, 0}, {[]int{-30}, 3, 0}, {[]int{30}, 4999, 0},
		{[]int{1, -1}, 0, 1}, {[]int{1, -1}, 2, 1}, {[]int{1, -1}, 3, 1}, {[]int{30, -30}, 5, 1}, {[]int{1, -1}, 4999, 1},
		{[]int{1, 1}, 0, 0}, {[]int{1, 1}, 2, 0}, {[]int{1, 1}, 3, 0}, {[]int{1, 1}, 5, 1}, {[]int{1, 1}, 4999, 0}, {[]int{1, 1}, 4993, 1}, {[]int{1, 7}, 2, 1}, {[]int{1, 7}, 0, 0}, {[]int{1, 7}, 7, 0},
		{[]int{1, 1, 1}, 0, 0}, {[]int{1, 1, 1}, 2, 0}, {[]int{1, 1, 1}, 3, 1}, {[]int{1, 1, -1}, 0, 1}, {[]int{1, 1, -1}, 2, 1}, {[]int{1, -1, -1}, 0, 1}, {[]int{-1, -1, -1}, 0, 0}, {[]int{1, 1, -3}, 3, 0}, {[]int{1, 1, 1}, 4999, 1},
		{[]int{1, -1, 1, -1}, 0, 2}, {[]int{1, -1, 1, -1}, 2, 2}, {[]int{1, -1, 1, -1}, 3, 2}, {[]int{1, -1, 1, -1}, 4999, 2}, {[]int{1, -1, 3, -3}, 3, 2}, {[]int{30, -30, 29, -29}, 29, 2},
		{[]int{1, 1, 1, 1}, 0, 0}, {[]int{1, 1, 1, 1}, 2, 0}, {[]int{1, 1, 1, 1}, 3, 2}, {[]int{-1, -1, -1, -1}, 2, 0}, {[]int{1, 1, 1, 1}, 4999, 2},
		{[]int{1, 1, 1, -1}, 0, 1}, {[]int{1, -1, -1, -1}, 0, 1}, {[]int{1, 1, 1, -1}, 2, 1}, {[]int{1, 1, 1, -1}, 3, 1}, {[]int{1, 1, 1, -1}, 5, 2}, {[]int{1, 1, 1, -1}, 4999, 1},
		{[]int{1, 1, -3, -3}, 0, 2}, {[]int{1, 1, -3, -3}, 2, 0}, {[]int{1, 1, -3, -3}, 3, 0}, {[]int{1, 1, -3, -3}, 5, 2}, {[]int{1, 1, -1, 3}, 3, 1}, {[]int{1, 1, 1, 7}, 2, 1}, {[]int{1, 1, 1, -7}, 2, 0}, {[]int{1, -1, 1, 7}, 2, 2},
	} {
		if got := impl.PlanesAt(c.form, c.place); got != c.want {
			t.Errorf("PlanesAt(%v, %d) is %d, not %d", c.form, c.place, got, c.want)
		}
	}
}

// TestPlanesAtGreatPrimes takes primes that divide no term: there only residues decide.
func TestPlanesAtGreatPrimes(t *testing.T) {
	for _, p := range primesTo(31, numberMax) {
		roots := rootTable(p)
		for _, form := range append(longForms(), []int{1}, []int{-30}, []int{1, 1}, []int{1, -1}, []int{29, -7}, []int{2, -30}, []int{1, 1, 1}, []int{30, 29, 23}) {
			want := len(form) / 2
			if divides(2, len(form)) && legendre(productOf(form)*minusOneTo(want), p, roots) == -1 {
				want--
			}
			if got := impl.PlanesAt(form, p); got != want {
				t.Errorf("PlanesAt(%v, %d) is %d, not %d", form, p, got, want)
			}
		}
	}
}

func TestPlanesAll(t *testing.T) {
	judge := newFormJudge()
	planes := map[int]int{}
	for form := range fewForms() {
		got, want := impl.PlanesAll(form), judge.planesEverywhere(form)
		if got != want {
			t.Errorf("PlanesAll(%v) is %d, not %d", form, got, want)
		}
		if len(form) == 4 {
			planes[want]++
		}
	}
	if planes[0] == 0 || planes[1] == 0 || planes[2] == 0 {
		t.Errorf("the numbers of forms of four terms by their planes are %v", planes)
	}
	for _, c := range []struct {
		form []int
		want int
	}{
		{[]int{1}, 0}, {[]int{1, -1}, 1}, {[]int{1, 1}, 0}, {[]int{1, -2}, 0}, {[]int{2, -18}, 1}, {[]int{1, 1, -1}, 1}, {[]int{1, 1, -3}, 0}, {[]int{1, 1, 1}, 0}, {[]int{1, -1, 3, -3}, 2}, {[]int{1, 1, -1, -1}, 2}, {[]int{1, 1, -2, -2}, 2}, {[]int{1, 1, -3, -3}, 0}, {[]int{1, 1, 1, -1}, 1}, {[]int{1, 1, 1, 1}, 0}, {[]int{1, -1, 1, 7}, 1}, {[]int{1, 1, 1, -7}, 0}, {[]int{1, -1, 1, -2}, 1}, {[]int{30, -30, 29, -29}, 2},
	} {
		if got := impl.PlanesAll(c.form); got != c.want {
			t.Errorf("PlanesAll(%v) is %d, not %d", c.form, got, c.want)
		}
	}
}

// expectRest checks PlanesRest for any form, and tells whether it succeeds.
func expectRest(t *testing.T, form []int, want int) bool {
	t.Helper()
	got, ok := impl.PlanesRest(form)
	if got != want || ok != (want != 0) {
		t.Errorf("PlanesRest(%v) is %d, %t, not %d", form, got, ok, want)
	}
	return ok
}

func TestPlanesRest(t *testing.T) {
	judge := newFormJudge()
	rests, none := 0, 0
	for form := range listsOf(3, fewTerms()) {
		want := 0
		if all := judge.restsOf(form); len(all) > 0 {
			want = all[0]
		}
		if expectRest(t, form, want) {
			rests++
		} else {
			none++
		}
	}
	if rests == 0 || none == 0 {
		t.Errorf("PlanesRest succeeds %d times, and fails %d times", rests, none)
	}
	for _, n := range []int{1, 2, 4} {
		for form := range listsOf(n, []int{-30, -1, 1, 3}) {
			expectRest(t, form, 0)
		}
	}
}

func TestPlanesRestLimits(t *testing.T) {
	for _, term := range allTerms() {
		for _, form := range [][]int{{1, -1, term}, {-7, term, 7}, {term, 30, -30}} {
			expectRest(t, form, coreOf(term))
		}
	}
	for _, c := range []struct {
		form []int
		want int
	}{
		{[]int{1, 1, -2}, 2}, {[]int{1, 1, -1}, 1}, {[]int{-1, -1, 1}, -1}, {[]int{1, 1, 1}, 0}, {[]int{1, 1, -3}, 0}, {[]int{4, -9, 12}, 3}, {[]int{2, 3, -5}, 30}, {[]int{-2, -3, 5}, -30},
	} {
		expectRest(t, c.form, c.want)
	}
	// 33, -33 and more would be left: 31 and 32 are no discriminants.
	for _, form := range [][]int{{11, -3, 1}, {-11, 3, -1}, {5, 2, -7}, {17, 2, -19}, {30, -29, -1}, {-30, 29, 1}} {
		if bad := impl.FormBad(form); len(bad) > 0 {
			t.Errorf("FormBad(%v) is %v", form, bad)
		}
		expectRest(t, form, 0)
	}
}

func TestWittSame(t *testing.T) {
	judge := newFormJudge()
	few := []int{-30, -12, -7, -3, -2, -1, 1, 2, 3, 6, 10}
	lists := [][][]int{nil, ascendingOf(1, allTerms()), ascendingOf(2, few), ascendingOf(3, few), ascendingOf(4, []int{-3, -1, 1, 2})}
	for n := 1; n <= 4; n++ {
		for m := 1; m <= 4; m++ {
			same, others := 0, 0
			for _, a := range lists[n] {
				for _, b := range lists[m] {
					want := judge.witt(a, b)
					if got := impl.WittSame(a, reversed(b)); got != want {
						t.Errorf("WittSame(%v, %v) is %t", a, reversed(b), got)
					}
					if want {
						same++
					} else {
						others++
					}
				}
			}
			possible := n+m == 2 || n+m == 4
			if (same > 0) != possible || others == 0 {
				t.Errorf("WittSame holds for %d forms of %d and %d terms, and fails for %d", same, n, m, others)
			}
		}
	}
}

func TestWittSameOfSomeForms(t *testing.T) {
	for _, c := range []struct {
		a, b []int
		want bool
	}{
		{[]int{1}, []int{1}, true}, {[]int{1}, []int{4}, true}, {[]int{1}, []int{-1}, false}, {[]int{2}, []int{-2}, false}, {[]int{1}, []int{2}, false}, {[]int{1}, []int{17}, false}, {[]int{-30}, []int{-30}, true},
		{[]int{1}, []int{1, -1, 1}, true}, {[]int{1, -1, 1}, []int{1}, true}, {[]int{2}, []int{3, -3, 2}, true}, {[]int{2}, []int{1, 1, -2}, true}, {[]int{-2}, []int{1, 1, -2}, false}, {[]int{1}, []int{1, 1, 1}, false}, {[]int{3}, []int{1, 1, -3}, false},
		{[]int{1, 1}, []int{1, 1}, true}, {[]int{1, 1}, []int{2, 2}, true}, {[]int{1, 1}, []int{3, 3}, false}, {[]int{1, 1}, []int{-1, -1}, false}, {[]int{1, -1}, []int{3, -3}, true}, {[]int{1, -1}, []int{1, 1}, false}, {[]int{2, 3}, []int{5, 30}, true},
		// An odd number of terms, with as many planes as three terms can have.
		{[]int{1, -1}, []int{1}, false}, {[]int{1}, []int{1, -1}, false}, {[]int{1, 1}, []int{1}, false}, {[]int{1}, []int{1, 1}, false},
		// More than four terms.
		{[]int{1, -1, 1}, []int{1, -1, 1}, false}, {[]int{1, -1, 1, -1}, []int{1, -1}, false}, {[]int{1, -1}, []int{1, -1, 1, -1}, false}, {[]int{1, -1, 1, -1}, []int{1, -1, 1, -1}, false}, {[]int{1}, []int{1, -1, 1, -1}, false},
		{nil, nil, false}, {nil, []int{1, -1}, false}, {[]int{1, -1}, nil, false}, {nil, []int{1, -1, 1, -1}, false}, {[]int{1, -1, 1, -1}, nil, false},
	} {
		if got := impl.WittSame(c.a, c.b); got != c.want {
			t.Errorf("WittSame(%v, %v) is %t", c.a, c.b, got)
		}
	}
}

// TestValueClasses compares the names with those of all values, and for forms of other terms with ValueAt.
func TestValueClasses(t *testing.T) {
	for _, p := range []int{2, 3, 5, 7, 11} {
		numbers := map[int]int{}
		for n := 1; n <= termsMax; n++ {
			for _, form := range nameForms(p, n) {
				want := reachedAt(form, p)
				if got := impl.ValueClasses(form, p); !slices.Equal(got, want) {
					t.Errorf("ValueClasses(%v, %d) is %v, not %v", form, p, got, want)
				}
				numbers[len(want)]++
			}
		}
		if half := len(namesOf(p)) / 2; numbers[1] == 0 || numbers[half] == 0 || numbers[2*half-1] == 0 || numbers[2*half] == 0 {
			t.Errorf("the numbers of forms by their classes at %d are %v", p, numbers)
		}
	}
	judge := newFormJudge()
	for _, place := range append([]int{0}, primesTo(2, 31)...) {
		for form := range listsOf(2, mostTerms()) {
			expectClasses(t, judge, form, place)
		}
		for _, form := range append(longForms(), ascendingOf(3, fewTerms())...) {
			expectClasses(t, judge, form, place)
		}
	}
}

func expectClasses(t *testing.T, judge *formJudge, form []int, place int) {
	t.Helper()
	want := []int{}
	for _, name := range shownNames(namesOf(place)) {
		if judge.represents(form, name, place) {
			want = append(want, name)
		}
	}
	if got := impl.ValueClasses(form, place); !slices.Equal(got, want) {
		t.Errorf("ValueClasses(%v, %d) is %v, not %v", form, place, got, want)
	}
}

func TestValueClassesOfSomeForms(t *testing.T) {
	for _, c := range []struct {
		form  []int
		place int
		want  []int
	}{
		{[]int{1}, 0, []int{1}}, {[]int{-30}, 0, []int{-1}}, {[]int{1, -1}, 0, []int{1, -1}}, {[]int{1, 1, 1, 1}, 0, []int{1}}, {[]int{-1, -1, -1, -1}, 0, []int{-1}}, {[]int{1, 1, 1, -1}, 0, []int{1, -1}},
		{[]int{1}, 2, []int{1}}, {[]int{-1}, 2, []int{7}}, {[]int{14}, 2, []int{14}}, {[]int{30}, 2, []int{14}}, {[]int{1, 1}, 2, []int{1, 5, 2, 10}}, {[]int{1, -1}, 2, []int{1, 3, 5, 7, 2, 6, 10, 14}}, {[]int{1, 1, 1}, 2, []int{1, 3, 5, 2, 6, 10, 14}}, {[]int{1, 1, 1, 1}, 2, []int{1, 3, 5, 7, 2, 6, 10, 14}},
		{[]int{1, 1}, 3, []int{1, 2}}, {[]int{3, 3}, 3, []int{3, 6}}, {[]int{1, 1, 1}, 3, []int{1, 2, 3, 6}}, {[]int{1, 1, 3}, 3, []int{1, 2, 3}}, {[]int{1, 1, -3}, 3, []int{1, 2, 6}},
		// Some names are greater than 30.
		{[]int{13, 13}, 13, []int{1, 2, 13, 26}}, {[]int{1, 1, 1}, 17, []int{1, 3, 17}}, {[]int{17}, 17, []int{17}}, {[]int{-17, -7}, 17, []int{3, 17}}, {[]int{1, 1, 1}, 29, []int{1, 2, 29}}, {[]int{29}, 29, []int{29}}, {[]int{29, 2}, 29, []int{2, 29}}, {[]int{2}, 29, []int{2}}, {[]int{1, -1}, 31, []int{1, 3}}, {[]int{-1}, 31, []int{3}}, {[]int{1, 1, 1, 1}, 4999, []int{1, 3}}, {[]int{1}, 4999, []int{1}}, {[]int{-30, 29}, 4999, []int{1, 3}},
	} {
		if got := impl.ValueClasses(c.form, c.place); !slices.Equal(got, c.want) {
			t.Errorf("ValueClasses(%v, %d) is %v, not %v", c.form, c.place, got, c.want)
		}
	}
}

// expectNoValues checks all functions for a list that is no form.
func expectNoValues(t *testing.T, list []int) {
	t.Helper()
	for _, n := range []int{1, -1, 30, -30, 0, 31} {
		if bad := impl.ValueBad(list, n); len(bad) != 0 || impl.ValueEverywhere(list, n) {
			t.Errorf("ValueBad(%v, %d) is %v, and ValueEverywhere %t", list, n, bad, impl.ValueEverywhere(list, n))
		}
		if v, d, ok := impl.ValueFind(list, n); ok || len(v) != 0 || d != 0 {
			t.Errorf("ValueFind(%v, %d) is %v, %d, %t", list, n, v, d, ok)
		}
		for _, size := range []int{1, 6, 0, 7} {
			if got := impl.ValueMany(list, n, size); got != -1 {
				t.Errorf("ValueMany(%v, %d, %d) is %d", list, n, size, got)
			}
		}
		for _, place := range []int{0, 2, 3, 31, 4999, 1, -1} {
			if impl.ValueAt(list, n, place) {
				t.Errorf("ValueAt(%v, %d, %d) holds", list, n, place)
			}
		}
	}
	for _, place := range []int{0, 2, 3, 31, 4999, 1, -1} {
		if impl.PlanesAt(list, place) != -1 || len(impl.ValueClasses(list, place)) != 0 {
			t.Errorf("PlanesAt(%v, %d) is %d, and ValueClasses %v", list, place, impl.PlanesAt(list, place), impl.ValueClasses(list, place))
		}
	}
	if rest, ok := impl.PlanesRest(list); ok || rest != 0 || impl.PlanesAll(list) != -1 {
		t.Errorf("PlanesRest(%v) is %d, %t, and PlanesAll %d", list, rest, ok, impl.PlanesAll(list))
	}
	for n := 1; n <= termsMax; n++ {
		other := slices.Repeat([]int{1, -1}, 2)[:n]
		if impl.WittSame(list, other) || impl.WittSame(other, list) || impl.WittSame(list, list) {
			t.Errorf("WittSame(%v, %v) is %t, exchanged %t, twice %t", list, other, impl.WittSame(list, other), impl.WittSame(other, list), impl.WittSame(list, list))
		}
	}
}

func TestValuesOfNoForms(t *testing.T) {
	for _, list := range noForms() {
		expectNoValues(t, list)
	}
}

func TestValuesOfNoNumbers(t *testing.T) {
	for _, n := range noValues() {
		for _, form := range [][]int{{1}, {-30}, {1, -1}, {1, 1}, {1, 1, -1}, {1, 1, 1}, {1, -1, 1, -1}, {-1, -1, -1, -1}} {
			if bad := impl.ValueBad(form, n); len(bad) != 0 || impl.ValueEverywhere(form, n) {
				t.Errorf("ValueBad(%v, %d) is %v, and ValueEverywhere %t", form, n, bad, impl.ValueEverywhere(form, n))
			}
			if v, d, ok := impl.ValueFind(form, n); ok || len(v) != 0 || d != 0 {
				t.Errorf("ValueFind(%v, %d) is %v, %d, %t", form, n, v, d, ok)
			}
			for _, place := range somePlaces() {
				if impl.ValueAt(form, n, place) {
					t.Errorf("ValueAt(%v, %d, %d) holds", form, n, place)
				}
			}
		}
	}
}

func TestValuesAtNoPlaces(t *testing.T) {
	for _, place := range noPlaces() {
		for _, form := range [][]int{{1}, {1, -1}, {1, 1, -1}, {1, -1, 1, -1}, {30, -30, 30, 30}} {
			if impl.ValueAt(form, 1, place) || impl.PlanesAt(form, place) != -1 || len(impl.ValueClasses(form, place)) != 0 {
				t.Errorf("ValueAt(%v, 1, %d) is %t, PlanesAt %d, and ValueClasses %v", form, place, impl.ValueAt(form, 1, place), impl.PlanesAt(form, place), impl.ValueClasses(form, place))
			}
		}
	}
}

func TestValuesKeepNothing(t *testing.T) {
	// The memory behind the forms belongs to the caller, too.
	memory := []int{1, -1, 1, 1, 9, -7}
	kept := slices.Clone(memory)
	a, b := memory[:2], memory[2:4]
	results := func() [][]int {
		by, _, _ := impl.ValueFind(a, 3)
		found, _, _ := impl.ValueFind(b, 5)
		first, _, _ := impl.ValueFind(memory[:3], 7)
		return [][]int{by, found, first, impl.ValueBad(b, 3), impl.ValueBad(a, 3), impl.ValueClasses(b, 2), impl.ValueClasses(memory[:4], 0)}
	}
	want := [][]int{{2, 1}, {1, 2}, {0, -3, -4}, {2, 3}, {}, {1, 5, 2, 10}, {1, -1}}
	for range 2 {
		for i, result := range results() {
			if !slices.Equal(result, want[i]) {
				t.Errorf("result %d is %v, not %v", i, result, want[i])
			}
			clear(result[:cap(result)])
			_ = append(result, 1, 1, 1)
		}
		impl.ValueAt(a, 2, 2)
		impl.ValueEverywhere(a, 2)
		impl.ValueMany(a, 2, 2)
		impl.PlanesAt(a, 2)
		impl.PlanesAll(a)
		impl.PlanesRest(memory[:3])
		impl.WittSame(a, b)
		impl.WittSame(memory[:1], memory[1:4])
		if !slices.Equal(memory, kept) {
			t.Fatalf("the forms are %v, and were %v", memory, kept)
		}
	}
}
