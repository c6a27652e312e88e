package tests

import (
	"math"
	"slices"
	"testing"

	"loop.example/localglobal/impl"
)

func TestZeroLimits(t *testing.T) {
	if impl.SplitMax != splitMax {
		t.Errorf("SplitMax is %d", impl.SplitMax)
	}
}

func TestZeroIs(t *testing.T) {
	for n, terms := range [][]int{allTerms(), allTerms(), fewTerms(), {-30, -6, -1, 1, 2, 5, 21}} {
		for form := range listsOf(n+1, terms) {
			for v := range listsOf(n+1, []int{-5, -2, -1, 0, 1, 3}) {
				if got := impl.ZeroIs(form, v); got != isZero(form, v) {
					t.Errorf("ZeroIs(%v, %v) is %t", form, v, got)
				}
			}
		}
	}
}

// expectZero checks ZeroIs, ZeroPlain and ZeroHeight for a form and a vector of it.
func expectZero(t *testing.T, form []int, v []int, holds bool) {
	t.Helper()
	plain, height := []int(nil), -1
	if holds {
		plain, height = plainOf(v), heightOf(v)
	}
	if got := impl.ZeroIs(form, v); got != holds {
		t.Errorf("ZeroIs(%v, %v) is %t", form, v, got)
	}
	if got, ok := impl.ZeroPlain(form, v); !slices.Equal(got, plain) || ok != holds {
		t.Errorf("ZeroPlain(%v, %v) is %v, %t, not %v", form, v, got, ok, plain)
	}
	if got := impl.ZeroHeight(form, v); got != height {
		t.Errorf("ZeroHeight(%v, %v) is %d, not %d", form, v, got, height)
	}
}

func TestZerosAndTheirMultiples(t *testing.T) {
	eachZero(func(form []int, v []int) {
		expectZero(t, form, v, true)
		expectZero(t, form, timesAll(v, -7), heightOf(v)*7 <= zeroMax)
	})
}

func TestZerosInRange(t *testing.T) {
	for _, c := range []struct {
		form, v []int
		holds   bool
	}{
		{[]int{1, -1}, []int{1000000, 1000000}, true},
		{[]int{1, -1}, []int{-1000000, 1000000}, true},
		{[]int{30, -30}, []int{999999, -999999}, true},
		{[]int{1, -1}, []int{1000001, 1000001}, false},
		{[]int{1, -1}, []int{-1000001, 1000001}, false},
		{[]int{1, -25}, []int{1000000, 200000}, true},
		{[]int{1, -25}, []int{1000005, 200001}, false},
		{[]int{-25, 1}, []int{200001, -1000005}, false},
		{[]int{30, 30, -30, -30}, []int{1000000, -1000000, 1000000, -1000000}, true},
		{[]int{30, 30, -30, -30}, []int{1000000, -1000000, 1000000, -999999}, false},
		{[]int{9, 16, -25}, []int{1000000, 1000000, 1000000}, true},
		{[]int{1, 1, -1}, []int{600000, 800000, -1000000}, true},
		{[]int{1, 1, -1}, []int{600000, 800000, -1000001}, false},
		{[]int{1, 1, -2}, []int{0, 0, 0}, false},
		{[]int{1}, []int{0}, false},
		{[]int{1, -1}, []int{0, 0}, false},
		{[]int{1, -1, 1, -1}, []int{0, 0, 0, 0}, false},
		{[]int{5, 7, 1, -1}, []int{0, 0, -6, 9}, false},
		{[]int{5, 7, 1, -1}, []int{0, 0, -6, 6}, true},
		{[]int{1, -1}, []int{1 << 32, 1 << 32}, false},
		{[]int{1, 1}, []int{1 << 32, 1 << 32}, false},
		{[]int{1}, []int{1 << 32}, false},
		{[]int{1, -1}, []int{math.MinInt, math.MinInt}, false},
		{[]int{2, 2}, []int{math.MinInt, 0}, false},
	} {
		expectZero(t, c.form, c.v, c.holds)
	}
}

func TestZeroPlain(t *testing.T) {
	for _, c := range []struct{ form, v, want []int }{
		{[]int{1, -1}, []int{-4, 4}, []int{1, -1}},
		{[]int{2, -8}, []int{-6, -3}, []int{2, 1}},
		{[]int{1, 1, -2}, []int{5, -5, 5}, []int{1, -1, 1}},
		{[]int{5, 1, -1}, []int{0, -6, 6}, []int{0, 1, -1}},
		{[]int{5, 1, -1}, []int{0, 0, 0}, nil},
		{[]int{7, 11, 1, -4}, []int{0, 0, -10, 5}, []int{0, 0, 2, -1}},
		{[]int{1, 1, -1}, []int{-30, 40, 50}, []int{3, -4, -5}},
		{[]int{1, 1, -1}, []int{600000, -800000, 1000000}, []int{3, -4, 5}},
		{[]int{1, 1, -1}, []int{3, 4, 5}, []int{3, 4, 5}},
		{[]int{1, 1, -1}, []int{3, 4, 6}, nil},
	} {
		if got, ok := impl.ZeroPlain(c.form, c.v); !slices.Equal(got, c.want) || ok != (c.want != nil) {
			t.Errorf("ZeroPlain(%v, %v) is %v, %t, not %v", c.form, c.v, got, ok, c.want)
		}
	}
}

func TestZeroNormalOfCommonPrimes(t *testing.T) {
	for _, c := range []struct{ form, terms, factors []int }{
		{[]int{1, 1, 1}, []int{1, 1, 1}, []int{1, 1, 1}},
		{[]int{2, 2, 3}, []int{1, 1, 6}, []int{1, 1, 2}},
		{[]int{2, 3, 2}, []int{1, 6, 1}, []int{1, 2, 1}},
		{[]int{3, 2, 2}, []int{6, 1, 1}, []int{2, 1, 1}},
		{[]int{2, 6, 10}, []int{1, 3, 5}, []int{1, 1, 1}},
		{[]int{6, -2, 10}, []int{3, -1, 5}, []int{1, 1, 1}},
		{[]int{6, 3, 2}, []int{1, 2, 3}, []int{1, 2, 3}},
		{[]int{6, 10, 15}, []int{5, 3, 2}, []int{5, 3, 2}},
		{[]int{14, 21, -6}, []int{3, 2, -7}, []int{3, 2, 7}},
		{[]int{30, 30, 30}, []int{1, 1, 1}, []int{1, 1, 1}},
		{[]int{29, -29, 29}, []int{1, -1, 1}, []int{1, 1, 1}},
		{[]int{30, 30, 1}, []int{1, 1, 30}, []int{1, 1, 30}},
		{[]int{30, -30, 7}, []int{1, -1, 210}, []int{1, 1, 30}},
		{[]int{30, 29, 30}, []int{1, 870, 1}, []int{1, 30, 1}},
		{[]int{4, 1, 1}, []int{1, 1, 1}, []int{1, 2, 2}},
		{[]int{4, 4, 4}, []int{1, 1, 1}, []int{4, 4, 4}},
		{[]int{-25, 16, 9}, []int{-1, 1, 1}, []int{12, 15, 20}},
		{[]int{12, 18, 8}, []int{6, 1, 1}, []int{12, 4, 6}},
		{[]int{6, 6, 4}, []int{1, 1, 6}, []int{2, 2, 6}},
		{[]int{29, 28, 27}, []int{29, 7, 3}, []int{6, 3, 2}},
		{[]int{30, 29, -23}, []int{30, 29, -23}, []int{1, 1, 1}},
	} {
		terms, factors := mustNormal(t, c.form)
		if !slices.Equal(terms, c.terms) || !slices.Equal(factors, c.factors) {
			t.Errorf("ZeroNormal(%v) is %v and %v, not %v and %v", c.form, terms, factors, c.terms, c.factors)
		}
	}
}

func TestZeroNormal(t *testing.T) {
	for form := range listsOf(3, allTerms()) {
		terms, factors := mustNormal(t, form)
		wantTerms, wantFactors := normalOf(form)
		if !slices.Equal(terms, wantTerms) || !slices.Equal(factors, wantFactors) {
			t.Errorf("ZeroNormal(%v) is %v and %v, not %v and %v", form, terms, factors, wantTerms, wantFactors)
		}
	}
}

func TestZeroNormalOfOtherLengths(t *testing.T) {
	for n := range 7 {
		terms, factors, ok := impl.ZeroNormal(ones(n))
		if ok != (n == 3) || !ok && (len(terms) != 0 || len(factors) != 0) {
			t.Errorf("ZeroNormal of %d terms is %v, %v, %t", n, terms, factors, ok)
		}
	}
}

// expectSearch checks ZeroSearch for any three integers.
func expectSearch(t *testing.T, terms []int) {
	t.Helper()
	want := []int(nil)
	if isNormal(terms) {
		want = searchOf(terms)
	}
	if got, ok := impl.ZeroSearch(terms); !slices.Equal(got, want) || ok != (want != nil) {
		t.Errorf("ZeroSearch(%v) is %v, %t, not %v", terms, got, ok, want)
	}
}

func TestZeroSearch(t *testing.T) {
	for terms := range listsOf(3, sizesTo(14)) {
		expectSearch(t, terms)
	}
	for terms := range listsOf(3, []int{-31, -23, -22, -19, 1, 13, 15, 17, 30, 31}) {
		if sizeOf(productOf(terms)) <= normalMax {
			expectSearch(t, terms)
		}
	}
	for _, terms := range [][]int{{1, 1, -9998}, {1, -7001, 2}, {-10007, 1, 2}, {2, -53, 283}, {11, 47, -58}} {
		expectSearch(t, terms)
		expectSearch(t, reversed(terms))
	}
}

func TestZeroSearchLimits(t *testing.T) {
	for _, c := range []struct{ terms, want []int }{
		{[]int{1, -1, 29999}, []int{1, 1, 0}},
		{[]int{-29999, 1, -1}, []int{0, 1, 1}},
		{[]int{1, 29999, -1}, []int{1, 0, 1}},
		{[]int{1, -1, 30001}, nil},
		{[]int{-30001, 1, -1}, nil},
		{[]int{1, 30001, -1}, nil},
		{[]int{1, -1, 30000}, nil}, // A square divides the greatest size itself.
		{[]int{1, -1, 29998}, []int{1, 1, 0}},
		{[]int{2, -53, 283}, []int{5, 7, 3}}, // 29998
		{[]int{5, 7, -857}, []int{11, 6, 1}}, // 29995
		{[]int{2, 7, -2143}, nil},            // 30002, where 30, 7 and 1 are a zero
		{[]int{2, 43, -349}, nil},            // 30014, where 27, 13 and 5 are one
		{[]int{3, -7, 1429}, nil},            // 30009, where 11, 16 and 1 are one
		{[]int{29999, -29998, -1}, nil},      // where 1, 1 and 1 are one
		{[]int{1, -1, 1 << 32}, nil},
		{[]int{1, -1, 1<<32 + 1}, nil},
		{[]int{1, -1, math.MaxInt}, nil},
		{[]int{1, -1, math.MinInt}, nil},
		{[]int{math.MinInt, math.MinInt, math.MinInt}, nil},
		{[]int{1<<32 + 1, 1<<32 - 1, -1}, nil},
		{[]int{1, -1, 0}, nil},
		{[]int{0, 1, -1}, nil},
		{[]int{1, 0, -1}, nil},
		{[]int{0, 0, 0}, nil},
		{[]int{1, -1, 4}, nil},
		{[]int{-9, 1, 1}, nil},
		{[]int{2, -2, 1}, nil},
		{[]int{3, 1, -3}, nil},
		{[]int{1, 5, -5}, nil},
		{[]int{1, 1, 1}, nil},
		{[]int{1, 1, -3}, nil},
		{[]int{}, nil},
		{nil, nil},
		{[]int{1}, nil},
		{[]int{1, -1}, nil},
		{[]int{1, -1, 1, -1}, nil},
		{[]int{1, -1, 1, -1, 1}, nil},
	} {
		if got, ok := impl.ZeroSearch(c.terms); !slices.Equal(got, c.want) || ok != (c.want != nil) {
			t.Errorf("ZeroSearch(%v) is %v, %t, not %v", c.terms, got, ok, c.want)
		}
	}
}

func TestZeroFindOfSomeForms(t *testing.T) {
	for _, c := range []struct{ form, want []int }{
		{[]int{1}, nil},
		{[]int{-30}, nil},
		{[]int{1, -1}, []int{1, 1}},
		{[]int{1, 1}, nil},
		{[]int{2, -8}, []int{2, 1}},
		{[]int{9, -4}, []int{2, 3}},
		{[]int{-12, 27}, []int{3, 2}},
		{[]int{8, -18}, []int{3, 2}},
		{[]int{4, -16}, []int{2, 1}},
		{[]int{-25, 1}, []int{1, 5}},
		{[]int{30, -30}, []int{1, 1}},
		{[]int{30, -29}, nil},
		{[]int{2, -3}, nil},
		{[]int{8, 18}, nil},
		{[]int{1, 1, -2}, []int{1, 1, 1}},
		{[]int{1, 1, -1}, []int{0, 1, 1}},
		{[]int{1, -6, 2}, []int{2, 1, 1}},
		{[]int{1, 1, 1}, nil},
		{[]int{1, 1, -3}, nil},
		{[]int{30, 30, -30}, []int{0, 1, 1}},
		{[]int{1, 1, 1, -6}, []int{1, 1, 2, 1}},
		{[]int{1, 1, 1, 1}, nil},
		{[]int{1, 1, 1, -7}, nil},
		{[]int{1, -1, 5, 7}, []int{1, 1, 0, 0}},
		{[]int{3, -3, 5, 5}, []int{1, 1, 0, 0}},
		{[]int{4, -9, 3, 3}, []int{3, 2, 0, 0}},
		{[]int{-9, 4, 3, 3}, []int{2, 3, 0, 0}},
		{[]int{4, -9, 1, 1}, []int{0, 1, 0, 3}},
	} {
		if got, ok := impl.ZeroFind(c.form); !slices.Equal(got, c.want) || ok != (c.want != nil) {
			t.Errorf("ZeroFind(%v) is %v, %t, not %v", c.form, got, ok, c.want)
		}
	}
}

func TestZeroFind(t *testing.T) {
	split, straight := 0, 0
	for form := range someForms() {
		want := findOf(form)
		if got, ok := impl.ZeroFind(form); !slices.Equal(got, want) || ok != (want != nil) {
			t.Errorf("ZeroFind(%v) is %v, %t, not %v", form, got, ok, want)
		}
		if len(form) == 4 && want != nil {
			split++
			if want[2] == 0 && want[3] == 0 {
				straight++
			}
		}
	}
	if straight == 0 || split == straight {
		t.Errorf("of %d zeros of four integers, %d end with two 0", split, straight)
	}
}

func TestZeroMany(t *testing.T) {
	for _, form := range zeroForms() {
		for _, n := range []int{1, 2, 5} {
			if len(form) == 4 && n == 5 {
				continue
			}
			want := 0
			for v := range listsOf(len(form), sizesTo(n)) {
				if isZero(form, v) && slices.Equal(v, plainOf(v)) {
					want++
				}
			}
			if got := impl.ZeroMany(form, n); got != want {
				t.Errorf("ZeroMany(%v, %d) is %d, not %d", form, n, got, want)
			}
		}
	}
	for _, c := range []struct {
		form    []int
		n, want int
	}{
		{[]int{1, 1, -2}, 1, 4}, {[]int{1}, 6, 0}, {[]int{1, -1}, 1, 2}, {[]int{1, -1}, 6, 2}, {[]int{1, -25}, 4, 0}, {[]int{1, -25}, 5, 2}, {[]int{1, 1, -1}, 4, 4}, {[]int{1, 1, -1}, 5, 12}, {[]int{1, 1, -1}, 6, 12}, {[]int{1, -1, 1, -1}, 1, 16}, {[]int{1, 1, 1, 1}, 6, 0},
	} {
		if got := impl.ZeroMany(c.form, c.n); got != c.want {
			t.Errorf("ZeroMany(%v, %d) is %d, not %d", c.form, c.n, got, c.want)
		}
	}
}

func TestZeroManyLimits(t *testing.T) {
	for _, n := range append(noNumbers(), 0, -1, -6, manyMax+1, 100, 256+1, 65536+6) {
		for _, form := range [][]int{{1}, {1, -1}, {1, 1, -1}, {1, 1, -1, -1}} {
			if got := impl.ZeroMany(form, n); got != -1 {
				t.Errorf("ZeroMany(%v, %d) is %d", form, n, got)
			}
		}
	}
}

// modulusExponents lists the primes and exponents of all powers up to 32.
func modulusExponents() [][2]int {
	list := [][2]int{}
	for _, p := range primesTo(2, 32) {
		for k, power := 1, p; power <= 32; k, power = k+1, power*p {
			list = append(list, [2]int{p, k})
		}
	}
	return list
}

func powerOf(p int, k int) int {
	power := 1
	for range k {
		power *= p
	}
	return power
}

func TestZeroModulo(t *testing.T) {
	for n, terms := range [][]int{allTerms(), mostTerms(), {-30, -27, -18, -9, -4, -1, 1, 3, 5, 8, 16, 25, 29}} {
		for _, form := range ascendingOf(n+1, terms) {
			form = reversed(form)
			for _, c := range modulusExponents() {
				want := zeroUpTo(form, c[0], powerOf(c[0], c[1]))
				if got := impl.ZeroModulo(form, c[0], c[1]); got != want {
					t.Errorf("ZeroModulo(%v, %d, %d) is %t", form, c[0], c[1], got)
				}
			}
		}
	}
}

func TestZeroModuloLimits(t *testing.T) {
	for _, c := range []struct {
		form []int
		p, k int
		want bool
	}{
		{[]int{1, 1, 1}, 2, 3, false}, {[]int{1, 1, 1}, 3, 1, true}, {[]int{1, 1, 1}, 2, 1, true}, {[]int{1, 1, 1}, 2, 2, false},
		{[]int{1, -1}, 2, 5, true}, {[]int{1, -1}, 2, 6, false}, {[]int{1, -1}, 3, 3, true}, {[]int{1, -1}, 3, 4, false}, {[]int{1, -1}, 5, 2, true}, {[]int{1, -1}, 5, 3, false}, {[]int{1, -1}, 7, 1, true}, {[]int{1, -1}, 7, 2, false}, {[]int{1, -1}, 31, 1, true}, {[]int{1, -1}, 37, 1, false}, {[]int{1, -1}, 4999, 1, false},
		{[]int{16}, 2, 4, true}, {[]int{16}, 2, 5, false}, {[]int{27}, 3, 3, true}, {[]int{25}, 5, 2, true}, {[]int{29}, 29, 1, true}, {[]int{1}, 2, 1, false},
		{[]int{1, -1, 1, -1}, 2, 1, false}, {[]int{1, 1, 1, 1}, 3, 1, false},
		{[]int{1, -1}, 2, 0, false}, {[]int{1, -1}, 2, -1, false}, {[]int{16}, 2, math.MinInt, false}, {[]int{1, -1}, 2, math.MaxInt, false}, {[]int{1, -1}, 2, 64, false}, {[]int{1, -1}, 4999, math.MaxInt, false},
	} {
		if got := impl.ZeroModulo(c.form, c.p, c.k); got != c.want {
			t.Errorf("ZeroModulo(%v, %d, %d) is %t", c.form, c.p, c.k, got)
		}
	}
	for _, p := range noPrimes() {
		for _, k := range []int{-1, 0, 1, 2, 5} {
			if impl.ZeroModulo([]int{1, -1}, p, k) {
				t.Errorf("ZeroModulo of 1 and -1 holds for %d and %d", p, k)
			}
		}
	}
}

func TestZeroPair(t *testing.T) {
	vectors := [][]int{{0, 0, 0, 0}, {1, 0, 0, 0}, {0, 1, 2, 0}, {1, -2, 3, -4}, {-1000, 1000, 1000, -1000}, {999, 1000, 7, 31}, {-1000, -1, 0, 13}}
	for _, form := range zeroForms() {
		n := len(form)
		for _, v := range vectors {
			for _, w := range vectors {
				if got, want := mustPair(t, form, v[:n], w[:n]), valueOf(form, v[:n], w[:n]); got != want {
					t.Errorf("ZeroPair(%v, %v, %v) is %d, not %d", form, v[:n], w[:n], got, want)
				}
			}
		}
	}
}

func TestZeroPairLimits(t *testing.T) {
	for n := 1; n <= termsMax; n++ {
		eachLimitVector(n, func(v []int, x int, inRange bool) {
			want := 0
			if inRange {
				want = 30*(n-1) - 30*x
			}
			form, other := slices.Repeat([]int{30}, n), opposites(ones(n))
			first, firstOk := impl.ZeroPair(form, v, other)
			second, secondOk := impl.ZeroPair(form, other, v)
			if first != want || firstOk != inRange || second != want || secondOk != inRange {
				t.Errorf("ZeroPair of %d terms 30 is %d, %t at %v, exchanged %d, %t", n, first, firstOk, v, second, secondOk)
			}
		})
		for other := range 7 {
			for another := range 7 {
				want := n == other && n == another
				if got, ok := impl.ZeroPair(ones(n), ones(other), ones(another)); ok != want || !ok && got != 0 {
					t.Errorf("ZeroPair of %d terms is %d, %t for %d and %d integers", n, got, ok, other, another)
				}
			}
		}
	}
}

func TestZerosOfOtherLengths(t *testing.T) {
	for n := 1; n <= termsMax; n++ {
		form := []int{1, -1, 1, -1}[:n]
		for other := range 8 {
			expectZero(t, form, ones(other), other == n && divides(2, n))
			expectZero(t, form, make([]int, other), false)
		}
		expectZero(t, form, nil, false)
	}
}

func TestZerosBeyondTheLimit(t *testing.T) {
	for _, x := range noZeroComponents() {
		for _, form := range [][]int{{1, -1}, {-30, 30}, {1, 1, -2}, {2, -1, -1}, {1, -1, 1, -1}} {
			expectZero(t, form, slices.Repeat([]int{x}, len(form)), false)
			for i := range form {
				v := make([]int, len(form))
				v[i] = x
				expectZero(t, form, v, false)
			}
		}
	}
}

// expectNoZeros checks all functions for a list that is no form.
func expectNoZeros(t *testing.T, list []int) {
	t.Helper()
	for _, v := range [][]int{ones(len(list)), make([]int, len(list)), nil, {1, 1}, list} {
		expectZero(t, list, v, false)
		if got, ok := impl.ZeroPair(list, v, v); got != 0 || ok {
			t.Errorf("ZeroPair(%v, %v, %v) is %d, %t", list, v, v, got, ok)
		}
	}
	if terms, factors, ok := impl.ZeroNormal(list); ok || len(terms) != 0 || len(factors) != 0 {
		t.Errorf("ZeroNormal(%v) is %v, %v, %t", list, terms, factors, ok)
	}
	if zero, ok := impl.ZeroFind(list); ok || len(zero) != 0 {
		t.Errorf("ZeroFind(%v) is %v, %t", list, zero, ok)
	}
	for n := range 8 {
		if got := impl.ZeroMany(list, n); got != -1 {
			t.Errorf("ZeroMany(%v, %d) is %d", list, n, got)
		}
	}
	for _, p := range []int{2, 3, 31, 1, 0} {
		if impl.ZeroModulo(list, p, 1) {
			t.Errorf("ZeroModulo(%v, %d, 1) holds", list, p)
		}
	}
}

func TestZerosOfNoForms(t *testing.T) {
	for _, list := range noForms() {
		expectNoZeros(t, list)
	}
}

func TestZerosKeepNothing(t *testing.T) {
	// The memory behind the lists belongs to the caller, too.
	memory := []int{2, -8, 6, 3, -1, 3, 3, 2, 9}
	kept := slices.Clone(memory)
	form, v, normal, four := memory[:2], memory[2:4], memory[4:7], []int{4, -9, 3, 3}
	want := [][]int{{2, 1}, {2, 1}, {-1, 1, 3}, {1, 1, 3}, {0, 1, 1}, {3, 2, 0, 0}}
	results := func() [][]int {
		plain, _ := impl.ZeroPlain(form, []int{-6, -3})
		found, _ := impl.ZeroFind(form)
		terms, factors, _ := impl.ZeroNormal([]int{-3, 3, 1})
		searched, _ := impl.ZeroSearch([]int{2, 1, -1})
		split, _ := impl.ZeroFind(four)
		return [][]int{plain, found, terms, factors, searched, split}
	}
	for range 2 {
		for i, result := range results() {
			if !slices.Equal(result, want[i]) {
				t.Errorf("result %d is %v, not %v", i, result, want[i])
			}
			clear(result[:cap(result)])
		}
	}
	for range 2 {
		impl.ZeroIs(form, v)
		impl.ZeroPlain(form, v)
		impl.ZeroNormal(normal)
		impl.ZeroSearch(normal)
		impl.ZeroFind(normal)
		impl.ZeroFind(memory[:4])
		impl.ZeroMany(normal, 2)
		impl.ZeroModulo(normal, 3, 2)
		impl.ZeroHeight(form, v)
		impl.ZeroPair(form, v, v)
		if !slices.Equal(memory, kept) {
			t.Fatalf("the lists are %v, and were %v", memory, kept)
		}
	}
}
