package tests

import (
	"slices"
	"testing"

	"loop.example/localglobal/impl"
)

// How many numbers from 1 to sumMax are sums of two squares and of three.
const (
	twosInAll   = 619
	threesInAll = 1668
)

// expectEverywhere checks that a form vanishes at all places, and tells whether it is a form.
func expectEverywhere(t *testing.T, form []int) bool {
	t.Helper()
	if !isForm(form) {
		return false
	}
	if bad := impl.FormBad(form); len(bad) > 0 {
		t.Errorf("FormBad(%v) is %v", form, bad)
	}
	for _, p := range somePlaces() {
		if !impl.FormVanishes(form, p) {
			t.Errorf("FormVanishes(%v, %d) fails", form, p)
		}
	}
	return true
}

func TestPromise79(t *testing.T) {
	sums, forms, twice := 0, 0, 0
	for n := 1; n <= sumMax; n++ {
		if !impl.TwoIs(n) {
			continue
		}
		sums++
		if list := mustTwo(t, n); squaresOf(list[:]) != n {
			t.Errorf("TwoFind(%d) is %v", n, list)
		}
		if impl.TwoMany(n) <= 0 {
			t.Errorf("TwoIs(%d) holds, and TwoMany is %d", n, impl.TwoMany(n))
		}
		core, _ := mustCore(t, n)
		if expectEverywhere(t, []int{1, 1, -core}) {
			forms++
		}
		if 2*n <= sumMax {
			twice++
			if !impl.TwoIs(2 * n) {
				t.Errorf("TwoIs(%d) holds, and TwoIs(%d) not", n, 2*n)
			}
		}
	}
	if sums != twosInAll || forms == 0 || twice == 0 {
		t.Errorf("TwoIs holds for %d numbers from 1 on, for %d of them there is a form, and %d can be doubled", sums, forms, twice)
	}
	// Where it does not hold, the form does not vanish somewhere.
	for n := 1; n <= sumMax; n++ {
		core, _ := mustCore(t, n)
		if form := []int{1, 1, -core}; isForm(form) && impl.TwoIs(n) != (len(impl.FormBad(form)) == 0) {
			t.Errorf("TwoIs(%d) is %t, and FormBad(%v) %v", n, impl.TwoIs(n), form, impl.FormBad(form))
		}
	}
	if !impl.TwoIs(0) {
		t.Error("TwoIs(0) fails")
	}
	for _, n := range noSums() {
		if impl.TwoIs(n) {
			t.Errorf("TwoIs(%d) holds", n)
		}
	}
}

func TestPromise80(t *testing.T) {
	found := 0
	check := func(n int) {
		x, y, ok := impl.TwoFind(n)
		if ok != impl.TwoIs(n) {
			t.Errorf("TwoFind(%d) is %t, and TwoIs %t", n, ok, impl.TwoIs(n))
		}
		if !ok {
			if x != 0 || y != 0 {
				t.Errorf("TwoFind(%d) is %d, %d, %t", n, x, y, ok)
			}
			return
		}
		found++
		if x < 0 || x > y || x*x+y*y != n {
			t.Errorf("TwoFind(%d) is %d and %d", n, x, y)
		}
		for less := range x {
			if isSquare(n - less*less) {
				t.Errorf("TwoFind(%d) is %d and %d, and not %d", n, x, y, less)
			}
		}
	}
	for n := range sumMax + 1 {
		check(n)
	}
	if found != twosInAll+1 {
		t.Errorf("TwoFind succeeds for %d numbers", found)
	}
	for _, n := range noSums() {
		check(n)
	}
	if found != twosInAll+1 {
		t.Errorf("TwoFind succeeds for %d numbers that are not in range", found-twosInAll-1)
	}
}

func TestPromise81(t *testing.T) {
	none, some := 0, 0
	for n := 1; n <= sumMax; n++ {
		many := impl.TwoMany(n)
		if many == -1 || many != impl.TwoEach(n) || (many > 0) != impl.TwoIs(n) {
			t.Errorf("TwoMany(%d) is %d, TwoEach %d, and TwoIs %t", n, many, impl.TwoEach(n), impl.TwoIs(n))
		}
		if many == 0 {
			none++
		} else {
			some++
		}
		if 2*n <= sumMax && impl.TwoMany(2*n) != many {
			t.Errorf("TwoMany(%d) is %d, and TwoMany(%d) %d", n, many, 2*n, impl.TwoMany(2*n))
		}
	}
	if some != twosInAll || none != sumMax-twosInAll {
		t.Errorf("TwoMany is 0 for %d numbers, and greater for %d", none, some)
	}
	if impl.TwoMany(0) != -1 || impl.TwoEach(0) != 1 {
		t.Errorf("TwoMany(0) is %d, and TwoEach(0) %d", impl.TwoMany(0), impl.TwoEach(0))
	}
	for _, n := range noSums() {
		if impl.TwoMany(n) != -1 || impl.TwoEach(n) != -1 {
			t.Errorf("TwoMany(%d) is %d, and TwoEach %d", n, impl.TwoMany(n), impl.TwoEach(n))
		}
	}
}

func TestPromise82(t *testing.T) {
	sums, forms, fourfold := 0, 0, 0
	for n := range sumMax + 1 {
		if n > 0 && 4*n <= sumMax {
			fourfold++
			if impl.ThreeIs(4*n) != impl.ThreeIs(n) {
				t.Errorf("ThreeIs(%d) is %t, and ThreeIs(%d) %t", n, impl.ThreeIs(n), 4*n, impl.ThreeIs(4*n))
			}
		}
		if !impl.ThreeIs(n) {
			continue
		}
		sums++
		if list, ok := impl.ThreeFind(n); !ok || squaresOf(list) != n {
			t.Errorf("ThreeIs(%d) holds, and ThreeFind is %v, %t", n, list, ok)
		}
		// 0 has no core.
		core, _, _ := impl.CoreOf(n)
		form := []int{1, 1, 1, -core}
		if !isForm(form) {
			continue
		}
		forms++
		if !impl.FormVanishes(form, 2) {
			t.Errorf("ThreeIs(%d) holds, and FormVanishes(%v, 2) not", n, form)
		}
	}
	if sums != threesInAll+1 || forms == 0 || fourfold == 0 {
		t.Errorf("ThreeIs holds for %d numbers, for %d of them there is a form, and for %d their fourfold is in range", sums, forms, fourfold)
	}
	for n := range sevens() {
		core, _ := mustCore(t, n)
		if form := []int{1, 1, 1, -core}; impl.ThreeIs(n) || isForm(form) && impl.FormVanishes(form, 2) {
			t.Errorf("ThreeIs(%d) is %t, and FormVanishes(%v, 2) %t", n, impl.ThreeIs(n), form, impl.FormVanishes(form, 2))
		}
	}
	for _, n := range noSums() {
		if impl.ThreeIs(n) {
			t.Errorf("ThreeIs(%d) holds", n)
		}
	}
}

// expectAscending checks that a list of so many integers from 0 on, none less than the one ahead, has squares that add up to a number.
func expectAscending(t *testing.T, list []int, count int, n int) {
	t.Helper()
	if len(list) != count || list[0] < 0 || !slices.IsSorted(list) || squaresOf(list) != n {
		t.Errorf("%d is found as a sum of the squares of %v", n, list)
	}
}

func TestPromise83(t *testing.T) {
	found := 0
	lists := sumLists(3)
	for n := range sumMax + 1 {
		list, ok := impl.ThreeFind(n)
		if ok != impl.ThreeIs(n) || !ok && len(list) != 0 {
			t.Errorf("ThreeFind(%d) is %v, %t, and ThreeIs %t", n, list, ok, impl.ThreeIs(n))
		}
		if !ok {
			continue
		}
		found++
		expectAscending(t, list, 3, n)
		if !slices.Equal(list, lists[n][0]) {
			t.Errorf("ThreeFind(%d) is %v, not %v", n, list, lists[n][0])
		}
	}
	if found != threesInAll+1 {
		t.Errorf("ThreeFind succeeds for %d numbers", found)
	}
	for n := range sevens() {
		if list, ok := impl.ThreeFind(n); ok || len(list) != 0 {
			t.Errorf("ThreeFind(%d) is %v, %t", n, list, ok)
		}
	}
	for _, n := range noSums() {
		if list, ok := impl.ThreeFind(n); ok || len(list) != 0 {
			t.Errorf("ThreeFind(%d) is %v, %t", n, list, ok)
		}
	}
}

func TestPromise84(t *testing.T) {
	twice, fourfold := 0, 0
	for n := 1; n <= sumMax; n++ {
		many, each := impl.FourMany(n), impl.FourEach(n)
		if many < 8 || (each != -1) != (n <= addedMax) || each != -1 && many != each {
			t.Errorf("FourMany(%d) is %d, and FourEach %d", n, many, each)
		}
		if n%2 == 0 {
			continue
		}
		if 2*n <= sumMax {
			twice++
			if more := impl.FourMany(2 * n); more != 3*many {
				t.Errorf("FourMany(%d) is %d, and FourMany(%d) %d", n, many, 2*n, more)
			}
		}
		if 4*n <= sumMax {
			fourfold++
			if more := impl.FourMany(4 * n); more != 3*many {
				t.Errorf("FourMany(%d) is %d, and FourMany(%d) %d", n, many, 4*n, more)
			}
		}
	}
	if twice != 500 || fourfold != 250 {
		t.Errorf("%d odd numbers are doubled, and %d multiplied by 4", twice, fourfold)
	}
	// A prime has itself and 1 as its divisors.
	for _, p := range primesTo(3, sumMax) {
		if many := impl.FourMany(p); many != 8*(p+1) {
			t.Errorf("FourMany(%d) is %d", p, many)
		}
	}
	for _, n := range append(noSums(), 0) {
		if many := impl.FourMany(n); many != -1 {
			t.Errorf("FourMany(%d) is %d", n, many)
		}
	}
}

func TestPromise85(t *testing.T) {
	for n := range addedMax + 1 {
		each := impl.FourEach(n)
		if each < 1 || each < impl.TwoEach(n) || divides(8, each) != (n > 0) {
			t.Errorf("FourEach(%d) is %d, and TwoEach %d", n, each, impl.TwoEach(n))
		}
		sum := 0
		for m := range n + 1 {
			sum += impl.TwoEach(m) * impl.TwoEach(n-m)
		}
		if each != sum {
			t.Errorf("FourEach(%d) is %d, and TwoEach adds up to %d", n, each, sum)
		}
	}
	if impl.FourEach(0) != 1 || impl.FourEach(addedMax) == -1 || impl.FourEach(addedMax+1) != -1 {
		t.Errorf("FourEach of 0, 300 and 301 is %d, %d and %d", impl.FourEach(0), impl.FourEach(addedMax), impl.FourEach(addedMax+1))
	}
	for _, n := range noAdded() {
		if each := impl.FourEach(n); each != -1 {
			t.Errorf("FourEach(%d) is %d", n, each)
		}
	}
}

func TestPromise86(t *testing.T) {
	lists := sumLists(4)
	for n := range sumMax + 1 {
		list, ok := impl.FourFind(n)
		if !ok {
			t.Fatalf("FourFind(%d) fails", n)
		}
		expectAscending(t, list, 4, n)
		if !slices.Equal(list, lists[n][0]) {
			t.Errorf("FourFind(%d) is %v, not %v", n, list, lists[n][0])
		}
		if (list[0] == 0) != impl.ThreeIs(n) {
			t.Errorf("FourFind(%d) is %v, and ThreeIs %t", n, list, impl.ThreeIs(n))
		}
		if three, ok := impl.ThreeFind(n); ok && !slices.Equal(list[1:], three) {
			t.Errorf("FourFind(%d) is %v, and ThreeFind %v", n, list, three)
		}
	}
	for _, n := range noSums() {
		if list, ok := impl.FourFind(n); ok || len(list) != 0 {
			t.Errorf("FourFind(%d) is %v, %t", n, list, ok)
		}
	}
}

// allQuats are all quaternions that the tests use.
func allQuats() [][]int {
	return append(someQuats(), fewQuats()...)
}

func TestPromise87(t *testing.T) {
	made, large, limit := 0, 0, 0
	for _, q := range allQuats() {
		norm := impl.QuatNorm(q)
		if norm == -1 || norm != squaresOf(q) {
			t.Fatalf("QuatNorm(%v) is %d", q, norm)
		}
		conjugate := mustConj(t, q)
		if got := impl.QuatNorm(conjugate); got != norm {
			t.Errorf("QuatNorm(%v) is %d, and of the conjugate %d", q, norm, got)
		}
		for _, pair := range [][2][]int{{q, conjugate}, {conjugate, q}} {
			product, ok := impl.QuatMul(pair[0], pair[1])
			if ok != (norm <= quatMax) || ok && !slices.Equal(product, []int{norm, 0, 0, 0}) || !ok && len(product) != 0 {
				t.Errorf("QuatMul(%v, %v) is %v, %t, and QuatNorm %d", pair[0], pair[1], product, ok, norm)
			}
		}
		switch {
		case norm == quatMax || norm == quatMax+1:
			limit++
		case norm < quatMax:
			made++
		default:
			large++
		}
	}
	if made == 0 || large == 0 || limit == 0 {
		t.Errorf("%d norms are in range, %d are not, and %d are at the limit or just beyond it", made, large, limit)
	}
	for _, q := range noQuats() {
		if impl.QuatValid(q) || impl.QuatNorm(q) != -1 {
			t.Errorf("QuatValid(%v) is %t, and QuatNorm %d", q, impl.QuatValid(q), impl.QuatNorm(q))
		}
	}
}

// mulOf returns QuatMul, and nothing if one of both is no quaternion, as the result of one that failed.
func mulOf(p []int, q []int) []int {
	product, ok := impl.QuatMul(p, q)
	if !ok {
		return nil
	}
	return product
}

func TestPromise88(t *testing.T) {
	made, large, grouped, one := 0, 0, 0, 0
	for _, p := range allQuats() {
		for _, q := range fewQuats() {
			product, ok := impl.QuatMul(p, q)
			if !ok {
				large++
				if len(product) != 0 || isQuat(quatProduct(p, q)) {
					t.Errorf("QuatMul(%v, %v) is %v, %t", p, q, product, ok)
				}
				continue
			}
			made++
			if norm := impl.QuatNorm(product); norm != impl.QuatNorm(p)*impl.QuatNorm(q) || norm == -1 {
				t.Errorf("QuatNorm of %v, %v and their product %v is %d, %d and %d", p, q, product, impl.QuatNorm(p), impl.QuatNorm(q), norm)
			}
			if opposite, ok := impl.QuatMul(mustConj(t, q), mustConj(t, p)); !ok || !slices.Equal(opposite, mustConj(t, product)) {
				t.Errorf("QuatMul(%v, %v) is %v, and of the conjugates in the opposite order %v, %t", p, q, product, opposite, ok)
			}
			for _, r := range fewQuats() {
				first, second := mulOf(product, r), mulOf(p, mulOf(q, r))
				if first == nil || second == nil {
					one++
					continue
				}
				grouped++
				if !slices.Equal(first, second) {
					t.Errorf("the product of %v, %v and %v is %v or %v", p, q, r, first, second)
				}
			}
		}
	}
	if made == 0 || large == 0 || grouped == 0 || one == 0 {
		t.Errorf("%d products are in range, %d are not; of three, %d are made both ways, and %d are not", made, large, grouped, one)
	}
	for _, q := range noQuats() {
		for _, p := range [][]int{{1, 0, 0, 0}, {0, 0, 0, 0}, q} {
			if mulOf(p, q) != nil || mulOf(q, p) != nil {
				t.Errorf("QuatMul of %v and %v is %v and %v", p, q, mulOf(p, q), mulOf(q, p))
			}
		}
	}
}

func TestPromise89(t *testing.T) {
	for _, q := range allQuats() {
		conjugate := mustConj(t, q)
		if again := mustConj(t, conjugate); !slices.Equal(again, q) {
			t.Errorf("QuatConj(%v) is %v, and QuatConj of it %v", q, conjugate, again)
		}
		if sum := sumOf(q, conjugate); !slices.Equal(sum, []int{2 * q[0], 0, 0, 0}) {
			t.Errorf("QuatConj(%v) is %v, and both add up to %v", q, conjugate, sum)
		}
	}
	for _, q := range noQuats() {
		if conjugate, ok := impl.QuatConj(q); ok || len(conjugate) != 0 {
			t.Errorf("QuatConj(%v) is %v, %t", q, conjugate, ok)
		}
	}
}

func TestPromise90(t *testing.T) {
	turned, large, axes, high := 0, 0, 0, 0
	for _, q := range allQuats() {
		norm := impl.QuatNorm(q)
		for _, v := range someTurned() {
			to, ok := impl.QuatTurn(q, v)
			if !ok {
				large++
				if len(to) != 0 || heightOf(turnOf(q, v)) <= quatMax {
					t.Errorf("QuatTurn(%v, %v) is %v, %t", q, v, to, ok)
				}
				continue
			}
			turned++
			if len(to) != 3 || squaresOf(to) != squaresOf(v)*norm*norm {
				t.Errorf("QuatTurn(%v, %v) is %v, and QuatNorm %d", q, v, to, norm)
			}
			if alike, ok := impl.QuatTurn(opposites(q), v); !ok || !slices.Equal(alike, to) {
				t.Errorf("QuatTurn(%v, %v) is %v, and of the opposite quaternion %v, %t", q, v, to, alike, ok)
			}
		}
		axis := slices.Clone(q[1:])
		want := timesAll(axis, norm)
		// The turn of an axis that is in range may be too great, all the same.
		good := isTurned(axis) && within(want, 3, quatMax)
		to, ok := impl.QuatTurn(q, axis)
		if ok != good || ok && !slices.Equal(to, want) || !ok && len(to) != 0 {
			t.Errorf("QuatTurn(%v, %v) is %v, %t, and QuatNorm %d", q, axis, to, ok, norm)
		}
		if ok {
			axes++
		} else if isTurned(axis) {
			high++
		}
	}
	if turned == 0 || large == 0 || axes == 0 || high == 0 {
		t.Errorf("%d vectors are turned, %d are not, %d are axes, and of %d axes the turn is too great", turned, large, axes, high)
	}
	for _, q := range noQuats() {
		if to, ok := impl.QuatTurn(q, []int{0, 0, 0}); ok || len(to) != 0 {
			t.Errorf("QuatTurn(%v) of 0 0 0 is %v, %t", q, to, ok)
		}
	}
	for _, v := range noTurned() {
		for _, q := range [][]int{{1, 0, 0, 0}, {0, 0, 0, 0}} {
			if to, ok := impl.QuatTurn(q, v); ok || len(to) != 0 {
				t.Errorf("QuatTurn(%v, %v) is %v, %t", q, v, to, ok)
			}
		}
	}
}
