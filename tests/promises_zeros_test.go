package tests

import (
	"slices"
	"testing"

	"loop.example/localglobal/impl"
)

// vectorsFor lists vectors for a form of so many terms, most of them no zeros.
func vectorsFor(n int) [][]int {
	return slices.Collect(listsOf(n, []int{-3, -1, 0, 1, 2}))
}

func TestPromise50(t *testing.T) {
	zeros := map[int]int{}
	eachZero(func(form []int, v []int) {
		if !impl.ZeroIs(form, v) || !impl.ZeroIs(form, opposites(v)) {
			t.Errorf("ZeroIs(%v, %v) is %t, for the opposite vector %t", form, v, impl.ZeroIs(form, v), impl.ZeroIs(form, opposites(v)))
		}
		zeros[len(form)]++
		if bad := impl.FormBad(form); len(bad) > 0 {
			t.Errorf("ZeroIs(%v, %v) holds, and FormBad is %v", form, v, bad)
		}
		if len(form) <= 3 && (!impl.ZeroModulo(form, 2, 1) || !impl.ZeroModulo(form, 3, 1)) {
			t.Errorf("ZeroIs(%v, %v) holds, and ZeroModulo by 2 or by 3 not", form, v)
		}
	})
	if zeros[1] > 0 || zeros[2] == 0 || zeros[3] == 0 || zeros[4] == 0 {
		t.Errorf("the numbers of zeros by the numbers of terms are %v", zeros)
	}
	for _, form := range zeroForms() {
		for _, v := range vectorsFor(len(form)) {
			if len(impl.FormBad(form)) > 0 && impl.ZeroIs(form, v) {
				t.Errorf("ZeroIs(%v, %v) holds, and FormBad is %v", form, v, impl.FormBad(form))
			}
		}
	}
	for _, c := range []struct{ form, v []int }{
		{nil, nil}, {[]int{1, -1}, nil}, {[]int{1, -1}, []int{1}}, {[]int{1, -1}, []int{1, 1, 0}}, {[]int{1, -1}, []int{0, 0}}, {[]int{1, -1}, []int{zeroMax + 1, zeroMax + 1}}, {[]int{31, -31}, []int{1, 1}}, {[]int{0, 1}, []int{1, 0}}, {[]int{1, -1, 1, -1, 1}, []int{1, 1, 0, 0, 0}},
	} {
		if impl.ZeroIs(c.form, c.v) {
			t.Errorf("ZeroIs(%v, %v) holds", c.form, c.v)
		}
	}
}

func TestPromise51(t *testing.T) {
	eachZero(func(form []int, v []int) {
		plain := mustPlain(t, form, v)
		if !impl.ZeroIs(form, plain) || !slices.Equal(mustPlain(t, form, plain), plain) || !slices.Equal(mustPlain(t, form, opposites(v)), plain) {
			t.Errorf("ZeroPlain(%v, %v) is %v, its own %v, for the opposite vector %v", form, v, plain, mustPlain(t, form, plain), mustPlain(t, form, opposites(v)))
		}
		if impl.ZeroHeight(form, plain) > impl.ZeroHeight(form, v) || !slices.Equal(plain, plainOf(v)) {
			t.Errorf("ZeroPlain(%v, %v) is %v", form, v, plain)
		}
	})
	for _, form := range zeroForms() {
		for _, v := range append(vectorsFor(len(form)), nil, ones(len(form)+1), slices.Repeat([]int{zeroMax + 1}, len(form))) {
			plain, ok := impl.ZeroPlain(form, v)
			if ok != impl.ZeroIs(form, v) || !ok && len(plain) != 0 {
				t.Errorf("ZeroPlain(%v, %v) is %v, %t", form, v, plain, ok)
			}
		}
	}
}

func TestPromise52(t *testing.T) {
	zeros := 0
	for form := range listsOf(3, allTerms()) {
		terms, factors := mustNormal(t, form)
		if !isNormal(terms) {
			t.Errorf("ZeroNormal(%v) is %v, which are not normal", form, terms)
		}
		if sizeOf(productOf(terms)) > sizeOf(productOf(form)) {
			t.Errorf("ZeroNormal(%v) is %v, and the product greater", form, terms)
		}
		zero, ok := impl.ZeroSearch(terms)
		if !ok {
			continue
		}
		zeros++
		for i := range zero {
			zero[i] *= factors[i]
		}
		if !impl.ZeroIs(form, zero) {
			t.Errorf("ZeroNormal(%v) is %v and %v, and %v no zero", form, terms, factors, zero)
		}
	}
	if zeros == 0 {
		t.Error("ZeroSearch always fails")
	}
	for _, list := range append(noForms(), []int{1}, []int{1, -1}, []int{1, 1, -1, 1}) {
		if terms, factors, ok := impl.ZeroNormal(list); ok || len(terms) != 0 || len(factors) != 0 {
			t.Errorf("ZeroNormal(%v) is %v, %v, %t", list, terms, factors, ok)
		}
	}
}

func TestPromise53(t *testing.T) {
	zeros, others := 0, 0
	check := func(terms []int) {
		zero, ok := impl.ZeroSearch(terms)
		if !ok {
			others++
			if len(zero) != 0 {
				t.Errorf("ZeroSearch(%v) fails with %v", terms, zero)
			}
			return
		}
		zeros++
		if len(zero) != 3 || !isNormal(terms) || !isZero(terms, zero) || slices.Min(zero) < 0 {
			t.Fatalf("ZeroSearch(%v) is %v", terms, zero)
		}
		x, y := zero[0], zero[1]
		if x*x > sizeOf(terms[1]*terms[2]) || y*y > sizeOf(terms[0]*terms[2]) {
			t.Errorf("ZeroSearch(%v) is %v, which is not small", terms, zero)
		}
	}
	for terms := range listsOf(3, sizesTo(18)) {
		check(terms)
	}
	for form := range listsOf(3, mostTerms()) {
		terms, _ := mustNormal(t, form)
		check(terms)
	}
	check([]int{1, -1, 29999})
	check([]int{2, -53, 283})
	check([]int{283, 2, -53})
	if zeros == 0 || others == 0 {
		t.Errorf("ZeroSearch succeeds %d times, and fails %d times", zeros, others)
	}
	for _, terms := range [][]int{nil, {1, -1}, {1, -1, 1, -1}, {1, -1, 0}, {4, -1, 3}, {2, -2, 1}, {1, -1, 30001}, {2, 7, -2143}, {1, 1, 1}} {
		if zero, ok := impl.ZeroSearch(terms); ok || len(zero) != 0 {
			t.Errorf("ZeroSearch(%v) is %v, %t", terms, zero, ok)
		}
	}
}

// expectFound checks ZeroFind of a form, and returns whether it succeeds.
func expectFound(t *testing.T, form []int) bool {
	t.Helper()
	zero, ok := impl.ZeroFind(form)
	good := len(impl.FormBad(form)) == 0
	if ok && !good || !ok && good && len(form) <= 3 {
		t.Errorf("ZeroFind(%v) is %v, %t, and FormBad %v", form, zero, ok, impl.FormBad(form))
	}
	if !ok {
		if len(zero) != 0 {
			t.Errorf("ZeroFind(%v) fails with %v", form, zero)
		}
		return false
	}
	if !isZero(form, zero) || !slices.Equal(zero, mustPlain(t, form, zero)) {
		t.Errorf("ZeroFind(%v) is %v", form, zero)
	}
	return true
}

func TestPromise54(t *testing.T) {
	for n := 1; n <= 3; n++ {
		found := 0
		for form := range listsOf(n, allTerms()) {
			if expectFound(t, form) {
				found++
			}
		}
		if n == 1 && found > 0 || n > 1 && found == 0 {
			t.Errorf("ZeroFind succeeds for %d forms of %d terms", found, n)
		}
	}
	found := 0
	for form := range listsOf(4, append(fewTerms(), -29, 25, 27)) {
		if expectFound(t, form) {
			found++
		}
	}
	if found == 0 {
		t.Error("ZeroFind always fails for forms of four terms")
	}
	for _, list := range noForms() {
		if zero, ok := impl.ZeroFind(list); ok || len(zero) != 0 {
			t.Errorf("ZeroFind(%v) is %v, %t", list, zero, ok)
		}
	}
}

func TestPromise55(t *testing.T) {
	most := map[int]int{1: manyMax, 2: manyMax, 3: 4, 4: 3}
	for _, form := range append(zeroForms(), []int{1, 1, -1}, []int{2, 3, -30}, []int{1, -1, 1, -1}, []int{1, 1, 1, -6}) {
		bad := len(impl.FormBad(form)) > 0
		zero, ok := impl.ZeroFind(form)
		last := 0
		for n := 1; n <= most[len(form)]; n++ {
			many := impl.ZeroMany(form, n)
			if many < last || bad && many != 0 {
				t.Errorf("ZeroMany(%v, %d) is %d, for the size 1 less %d, some place is bad: %t", form, n, many, last, bad)
			}
			if ok && impl.ZeroHeight(form, zero) <= n && many < 1 {
				t.Errorf("ZeroMany(%v, %d) is %d, and ZeroFind %v", form, n, many, zero)
			}
			last = many
		}
	}
	for n := 1; n <= manyMax; n++ {
		if impl.ZeroMany([]int{1, 1, -2, 30}, n) < 4 || impl.ZeroMany([]int{1, -1, -1, 1}, n) < impl.ZeroMany([]int{1, -1, -1, 1}, max(n-1, 1)) {
			t.Errorf("ZeroMany of four terms is %d and %d for the size %d", impl.ZeroMany([]int{1, 1, -2, 30}, n), impl.ZeroMany([]int{1, -1, -1, 1}, n), n)
		}
	}
	for _, n := range []int{0, -1, manyMax + 1} {
		if got := impl.ZeroMany([]int{1, 1, -1}, n); got != -1 {
			t.Errorf("ZeroMany of 1, 1 and -1 is %d for the size %d", got, n)
		}
	}
	for _, list := range noForms() {
		if got := impl.ZeroMany(list, 1); got != -1 {
			t.Errorf("ZeroMany(%v, 1) is %d", list, got)
		}
	}
}

func TestPromise56(t *testing.T) {
	vanishing, failing := 0, 0
	for n := 1; n <= 3; n++ {
		for _, form := range ascendingOf(n, []int{-30, -21, -15, -10, -7, -6, -3, -2, -1, 1, 2, 3, 5, 6, 7, 11, 14, 15, 29, 30}) {
			for _, c := range [][2]int{{3, 3}, {2, 5}} {
				holds := impl.ZeroModulo(form, c[0], c[1])
				if holds && !impl.FormVanishes(form, c[0]) {
					t.Errorf("ZeroModulo(%v, %d, %d) holds, and FormVanishes not", form, c[0], c[1])
				}
				if holds {
					vanishing++
				} else {
					failing++
				}
			}
		}
	}
	if vanishing == 0 || failing == 0 {
		t.Errorf("ZeroModulo holds %d times, and fails %d times", vanishing, failing)
	}
	for n := 1; n <= 3; n++ {
		for _, form := range ascendingOf(n, []int{-27, -18, -16, -9, -8, -5, -3, -1, 1, 2, 4, 12, 20, 25, 30}) {
			for _, c := range modulusExponents() {
				if c[1] > 1 && impl.ZeroModulo(form, c[0], c[1]) && !impl.ZeroModulo(form, c[0], c[1]-1) {
					t.Errorf("ZeroModulo(%v, %d, %d) holds, and not with the exponent less 1", form, c[0], c[1])
				}
			}
		}
	}
	for _, c := range []struct {
		form []int
		p, k int
	}{
		{[]int{1, -1}, 2, 6}, {[]int{1, -1}, 3, 4}, {[]int{1, -1}, 37, 1}, {[]int{1, -1}, 4, 1}, {[]int{1, -1}, 1, 1}, {[]int{1, -1}, 0, 1}, {[]int{1, -1}, -3, 1}, {[]int{1, -1}, 3, 0}, {[]int{1, -1}, 3, -1}, {[]int{1, -1, 1, -1}, 3, 1}, {nil, 3, 1}, {[]int{0, 1}, 3, 1}, {[]int{31}, 31, 1},
	} {
		if impl.ZeroModulo(c.form, c.p, c.k) {
			t.Errorf("ZeroModulo(%v, %d, %d) holds", c.form, c.p, c.k)
		}
	}
}

func TestPromise57(t *testing.T) {
	eachZero(func(form []int, v []int) {
		height := impl.ZeroHeight(form, v)
		if height < 1 || height != heightOf(v) {
			t.Errorf("ZeroHeight(%v, %v) is %d", form, v, height)
		}
		plain := mustPlain(t, form, v)
		lower := impl.ZeroHeight(form, plain)
		if lower < 1 || !divides(lower, height) {
			t.Fatalf("ZeroHeight(%v, %v) is %d, and of %v %d", form, v, height, plain, lower)
		}
		multiple := timesAll(plain, height/lower)
		if !slices.Equal(v, multiple) && !slices.Equal(v, opposites(multiple)) {
			t.Errorf("ZeroHeight(%v, %v) is %d, and of %v %d", form, v, height, plain, lower)
		}
	})
	for _, form := range zeroForms() {
		for _, v := range append(vectorsFor(len(form)), nil, ones(len(form)+1), slices.Repeat([]int{-zeroMax - 1}, len(form))) {
			if got := impl.ZeroHeight(form, v); !impl.ZeroIs(form, v) && got != -1 {
				t.Errorf("ZeroHeight(%v, %v) is %d", form, v, got)
			}
		}
	}
}

func TestPromise58(t *testing.T) {
	vectors := [][]int{{0, 0, 0, 0}, {1, 2, 3, 4}, {0, -1, 5, 17}, {500, -500, 499, 250}, {501, 0, 1, -750}, {-1000, 7, 1000, 3}, {1000, 1000, 1000, 1000}, {-999, 1, -3, 0}}
	for form := range fewForms() {
		n := len(form)
		for _, v := range vectors {
			for _, w := range vectors {
				v, w := v[:n], w[:n]
				pair := mustPair(t, form, v, w)
				if mustPair(t, form, w, v) != pair || mustPair(t, form, v, v) != mustValue(t, form, v) {
					t.Errorf("ZeroPair(%v, %v, %v) is %d, exchanged %d, of the first vector and itself %d", form, v, w, pair, mustPair(t, form, w, v), mustPair(t, form, v, v))
				}
				want := mustValue(t, form, v) + mustValue(t, form, w) + 2*pair
				if got, ok := impl.FormValue(form, sumOf(v, w)); ok && got != want {
					t.Errorf("ZeroPair(%v, %v, %v) is %d, and the value at the sum of both %d", form, v, w, pair, got)
				}
			}
		}
	}
	for _, c := range []struct{ form, v, w []int }{
		{nil, nil, nil}, {[]int{0}, ones(1), ones(1)}, {[]int{31, 1}, ones(2), ones(2)}, {ones(5), ones(5), ones(5)}, {ones(2), ones(2), ones(1)}, {ones(2), ones(3), ones(2)}, {ones(2), nil, ones(2)}, {ones(2), ones(2), nil}, {ones(2), []int{0, 1001}, ones(2)}, {ones(2), ones(2), []int{-1001, 0}}, {ones(2), []int{0, 1001}, []int{1, 0}},
	} {
		if got, ok := impl.ZeroPair(c.form, c.v, c.w); ok || got != 0 {
			t.Errorf("ZeroPair(%v, %v, %v) is %d, %t", c.form, c.v, c.w, got, ok)
		}
	}
}
