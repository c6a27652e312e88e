package tests

import (
	"slices"
	"testing"

	"loop.example/localglobal/impl"
)

// valuePlaces are the places of most terms, one at which each term is a unit, and the greatest one.
func valuePlaces() []int {
	return []int{0, 2, 3, 5, 7, 29, 31, 4999}
}

// squaresTimes lists a number times each square, as far as it is in range.
func squaresTimes(n int) []int {
	list := []int{}
	for x := 1; sizeOf(n*x*x) <= termMax; x++ {
		list = append(list, n*x*x)
	}
	return list
}

// longerOf lists forms of one term more; there are none of more than four terms.
func longerOf(form []int) [][]int {
	list := [][]int{}
	for _, term := range []int{-30, -21, -2, -1, 1, 3, 5, 14, 29} {
		for _, longer := range [][]int{append(slices.Clone(form), term), append([]int{term}, form...)} {
			if isForm(longer) {
				list = append(list, longer)
			}
		}
	}
	return list
}

func TestPromise91(t *testing.T) {
	alike := map[int]int{}
	eachFormPair(func(a []int, b []int) {
		for _, place := range []int{0, 2, 3, 5, 7, 31} {
			holds := impl.FormAlike(a, b, place)
			if holds != impl.FormAlike(b, a, place) {
				t.Errorf("FormAlike(%v, %v, %d) is %t, and not exchanged", a, b, place, holds)
			}
			if !holds {
				continue
			}
			alike[len(a)]++
			if impl.FormVanishes(a, place) != impl.FormVanishes(b, place) {
				t.Errorf("FormAlike(%v, %v, %d) holds, and FormVanishes is %t and %t", a, b, place, impl.FormVanishes(a, place), impl.FormVanishes(b, place))
			}
			for _, term := range []int{-30, -2, -1, 3, 5, 14} {
				longerA, longerB := append(slices.Clone(a), term), append([]int{term}, b...)
				if isForm(longerA) && !impl.FormAlike(longerA, longerB, place) {
					t.Errorf("FormAlike(%v, %v, %d) holds, and not with %d", a, b, place, term)
				}
			}
			for _, n := range []int{-30, -21, -7, -3, -2, -1, 1, 2, 3, 5, 6, 7, 10, 15, 29} {
				if impl.ValueAt(a, n, place) != impl.ValueAt(b, n, place) {
					t.Errorf("FormAlike(%v, %v, %d) holds, and ValueAt of %d is %t and %t", a, b, place, n, impl.ValueAt(a, n, place), impl.ValueAt(b, n, place))
				}
			}
		}
	})
	for n := 1; n <= termsMax; n++ {
		if alike[n] == 0 {
			t.Errorf("no two forms of %d terms are alike", n)
		}
	}
	for _, c := range []struct {
		a, b  []int
		place int
	}{
		{[]int{1}, []int{1, 1}, 0}, {[]int{1, -1}, []int{1}, 2}, {nil, nil, 0}, {ones(5), ones(5), 0}, {[]int{31}, []int{31}, 2}, {[]int{0}, []int{0}, 3}, {[]int{1}, []int{1}, 1}, {[]int{1}, []int{1}, -1}, {[]int{1}, []int{1}, 4}, {[]int{1}, []int{1}, 5003},
	} {
		if impl.FormAlike(c.a, c.b, c.place) {
			t.Errorf("FormAlike(%v, %v, %d) holds", c.a, c.b, c.place)
		}
	}
}

func TestPromise92(t *testing.T) {
	less := 0
	for n := 1; n <= sumMax; n++ {
		each := impl.TwoEach(n)
		if each == -1 || !divides(4, each) {
			t.Errorf("TwoEach(%d) is %d", n, each)
		}
		many := impl.ValueMany([]int{1, 1}, n, manyMax)
		if (many == -1) != (n > countedMax) || many > each || n < 49 && many != each {
			t.Errorf("TwoEach(%d) is %d, and ValueMany %d", n, each, many)
		}
		if many >= 0 && many < each {
			less++
		}
	}
	if less == 0 {
		t.Error("ValueMany is never less")
	}
	// 49 is the square of 7, which is greater than the size 6; 50 is twice that of 5, too.
	if impl.TwoEach(49) != 4 || impl.ValueMany([]int{1, 1}, 49, manyMax) != 0 || impl.TwoEach(50) != 12 || impl.ValueMany([]int{1, 1}, 50, manyMax) != 4 {
		t.Errorf("ValueMany of 49 is %d, and of 50 %d", impl.ValueMany([]int{1, 1}, 49, manyMax), impl.ValueMany([]int{1, 1}, 50, manyMax))
	}
	if impl.TwoEach(0) != 1 || impl.ValueMany([]int{1, 1}, 0, manyMax) != 1 {
		t.Errorf("TwoEach(0) is %d, and ValueMany %d", impl.TwoEach(0), impl.ValueMany([]int{1, 1}, 0, manyMax))
	}
	for _, n := range noSums() {
		if impl.TwoEach(n) != -1 {
			t.Errorf("TwoEach(%d) is %d", n, impl.TwoEach(n))
		}
	}
	for _, n := range noCounted() {
		if impl.ValueMany([]int{1, 1}, n, manyMax) != -1 {
			t.Errorf("ValueMany of %d is %d", n, impl.ValueMany([]int{1, 1}, n, manyMax))
		}
	}
}

func TestPromise93(t *testing.T) {
	holding, failing := map[int]int{}, map[int]int{}
	for form := range fewForms() {
		longer := longerOf(form)
		for _, place := range []int{0, 2, 3, 7, 31} {
			for _, n := range []int{-30, -29, -21, -7, -6, -3, -2, -1, 1, 2, 3, 5, 7, 10, 28} {
				if !impl.ValueAt(form, n, place) {
					failing[len(form)]++
					continue
				}
				holding[len(form)]++
				for _, square := range squaresTimes(n) {
					if !impl.ValueAt(form, square, place) {
						t.Errorf("ValueAt(%v, %d, %d) holds, and not for %d", form, n, place, square)
					}
				}
				for _, longer := range longer {
					if !impl.ValueAt(longer, n, place) {
						t.Errorf("ValueAt(%v, %d, %d) holds, and not of %v", form, n, place, longer)
					}
				}
			}
		}
	}
	for n := 1; n <= termsMax; n++ {
		if holding[n] == 0 || failing[n] == 0 {
			t.Errorf("ValueAt of %d terms holds %d times, and fails %d times", n, holding[n], failing[n])
		}
	}
	for _, place := range somePlaces() {
		for _, term := range allTerms() {
			for _, n := range allTerms() {
				if got := impl.ValueAt([]int{term}, n, place); got != impl.LocalSame(term, n, place) {
					t.Errorf("ValueAt of %d is %t for %d at %d", term, got, n, place)
				}
			}
		}
	}
	for _, c := range []struct {
		form     []int
		n, place int
	}{
		{nil, 1, 0}, {ones(5), 1, 0}, {[]int{31}, 1, 2}, {[]int{0}, 1, 2}, {[]int{1, -1}, 0, 0}, {[]int{1, -1}, 31, 2}, {[]int{1, -1}, -31, 0}, {[]int{1, -1}, 1, 1}, {[]int{1, -1}, 1, 4}, {[]int{1, -1, 1, 1}, 1, -2}, {[]int{1, -1, 1, 1}, 0, 2}, {[]int{1, 1, 1, -1}, 31, 2}, {[]int{1, 1, 1, -1}, 36, 0},
	} {
		if impl.ValueAt(c.form, c.n, c.place) {
			t.Errorf("ValueAt(%v, %d, %d) holds", c.form, c.n, c.place)
		}
	}
}

func TestPromise94(t *testing.T) {
	for form := range someForms() {
		for _, term := range form {
			if !impl.ValueEverywhere(form, term) {
				t.Errorf("ValueEverywhere(%v, %d) fails", form, term)
			}
		}
	}
	planes, others := map[int]int{}, 0
	for form := range fewForms() {
		if impl.PlanesAll(form) == 0 {
			if !impl.ValueEverywhere(form, -form[0]) {
				others++
			}
			continue
		}
		planes[len(form)]++
		for _, n := range allTerms() {
			if !impl.ValueEverywhere(form, n) {
				t.Errorf("ValueEverywhere(%v, %d) fails, and PlanesAll is %d", form, n, impl.PlanesAll(form))
			}
		}
	}
	if planes[1] > 0 || planes[2] == 0 || planes[3] == 0 || planes[4] == 0 || others == 0 {
		t.Errorf("the numbers of forms with a plane by their terms are %v, and %d do not represent all", planes, others)
	}
	for _, list := range noForms() {
		for _, n := range []int{1, -1, 30} {
			if impl.ValueEverywhere(list, n) {
				t.Errorf("ValueEverywhere(%v, %d) holds", list, n)
			}
		}
	}
	for _, n := range noValues() {
		for _, form := range [][]int{{1}, {1, -1}, {1, 1, -1}, {1, -1, 1, -1}} {
			if impl.ValueEverywhere(form, n) {
				t.Errorf("ValueEverywhere(%v, %d) holds", form, n)
			}
		}
	}
}

func TestPromise95(t *testing.T) {
	numbers := map[int]int{}
	for form := range fewForms() {
		for _, n := range mostTerms() {
			bad := impl.ValueBad(form, n)
			if !slices.IsSorted(bad) || len(slices.Compact(slices.Clone(bad))) != len(bad) {
				t.Errorf("ValueBad(%v, %d) is %v", form, n, bad)
			}
			for _, place := range bad {
				if impl.ValueAt(form, n, place) {
					t.Errorf("ValueBad(%v, %d) is %v, and ValueAt holds at %d", form, n, bad, place)
				}
			}
			// The places of the form and of the number, and no others.
			for _, place := range slices.Concat(impl.FormPlaces(form), impl.FormPlaces([]int{n})) {
				if impl.ValueAt(form, n, place) == slices.Contains(bad, place) {
					t.Errorf("ValueBad(%v, %d) is %v, and ValueAt %t at %d", form, n, bad, impl.ValueAt(form, n, place), place)
				}
			}
			if (len(bad) == 0) != impl.ValueEverywhere(form, n) {
				t.Errorf("ValueBad(%v, %d) is %v, and ValueEverywhere %t", form, n, bad, impl.ValueEverywhere(form, n))
			}
			if len(form) == 2 {
				numbers[len(bad)]++
			}
		}
	}
	for form := range listsOf(2, allTerms()) {
		for _, n := range []int{-30, -29, -7, -1, 1, 3, 6, 23} {
			if bad := impl.ValueBad(form, n); !divides(2, len(bad)) {
				t.Errorf("ValueBad(%v, %d) is %v", form, n, bad)
			}
		}
	}
	if numbers[0] == 0 || numbers[2] == 0 || numbers[4] == 0 || numbers[1]+numbers[3] > 0 {
		t.Errorf("for two terms, ValueBad has the numbers %v of places", numbers)
	}
	for _, list := range noForms() {
		if bad := impl.ValueBad(list, 1); len(bad) != 0 {
			t.Errorf("ValueBad(%v, 1) is %v", list, bad)
		}
	}
	for _, n := range noValues() {
		if bad := impl.ValueBad([]int{1, 1}, n); len(bad) != 0 {
			t.Errorf("ValueBad of 1 and 1 and %d is %v", n, bad)
		}
	}
}

// expectRepresented checks ValueFind of a form and a number, and tells whether it succeeds.
func expectRepresented(t *testing.T, form []int, n int) bool {
	t.Helper()
	v, d, ok := impl.ValueFind(form, n)
	if !ok {
		if len(v) != 0 || d != 0 {
			t.Errorf("ValueFind(%v, %d) fails with %v, %d", form, n, v, d)
		}
		return false
	}
	if len(v) != len(form) || d < 1 || valueOf(form, v, v) != n*d*d || divisorOf(append(slices.Clone(v), d)...) != 1 {
		t.Fatalf("ValueFind(%v, %d) is %v, %d", form, n, v, d)
	}
	if !impl.ValueEverywhere(form, n) {
		t.Errorf("ValueFind(%v, %d) is %v, %d, and ValueEverywhere fails", form, n, v, d)
	}
	return true
}

func TestPromise96(t *testing.T) {
	for n, terms := range [][]int{allTerms(), mostTerms(), fewTerms()} {
		zeros, others, failed := 0, 0, 0
		for form := range listsOf(n+1, terms) {
			_, zero := impl.ZeroFind(form)
			for _, n := range mostTerms() {
				switch found := expectRepresented(t, form, n); {
				case found && zero:
					zeros++
				case found:
					others++
				case zero:
					t.Errorf("ValueFind(%v, %d) fails, and ZeroFind succeeds", form, n)
				default:
					failed++
				}
			}
		}
		if (zeros > 0) != (n > 0) || others == 0 || failed == 0 {
			t.Errorf("ValueFind of %d terms succeeds %d times by a zero, %d times without, and fails %d times", n+1, zeros, others, failed)
		}
	}
	for _, form := range append(noForms(), longForms()...) {
		for _, n := range []int{1, -1, 30} {
			if v, d, ok := impl.ValueFind(form, n); ok || len(v) != 0 || d != 0 {
				t.Errorf("ValueFind(%v, %d) is %v, %d, %t", form, n, v, d, ok)
			}
		}
	}
	for _, n := range noValues() {
		for _, form := range [][]int{{1}, {1, -1}, {1, 1}, {1, 1, -1}, {1, 1, 1}} {
			if v, d, ok := impl.ValueFind(form, n); ok || len(v) != 0 || d != 0 {
				t.Errorf("ValueFind(%v, %d) is %v, %d, %t", form, n, v, d, ok)
			}
		}
	}
}

func TestPromise97(t *testing.T) {
	for n := 1; n <= 2; n++ {
		found, failed := 0, 0
		for form := range listsOf(n, allTerms()) {
			for _, n := range allTerms() {
				_, _, ok := impl.ValueFind(form, n)
				if ok != impl.ValueEverywhere(form, n) {
					t.Errorf("ValueFind(%v, %d) is %t, and ValueEverywhere %t", form, n, ok, impl.ValueEverywhere(form, n))
				}
				if ok {
					found++
				} else {
					failed++
				}
			}
		}
		if found == 0 || failed == 0 {
			t.Errorf("ValueFind of %d terms succeeds %d times, and fails %d times", n, found, failed)
		}
	}
}

func TestPromise98(t *testing.T) {
	most := map[int]int{1: manyMax, 2: manyMax, 3: 4, 4: 2}
	some, none := 0, 0
	check := func(form []int, most int) {
		for _, n := range []int{-1000, -30, -21, -8, -1, 0, 1, 2, 3, 7, 12, 29, 30, 31, 240, 1000} {
			last := 0
			for size := 1; size <= most; size++ {
				many := impl.ValueMany(form, n, size)
				if many < last || n != 0 && !divides(2, many) || n == 0 && many < 2*impl.ZeroMany(form, size)+1 {
					t.Errorf("ValueMany(%v, %d, %d) is %d, for the size 1 less %d", form, n, size, many, last)
				}
				last = many
			}
			if n == 0 || sizeOf(n) > termMax {
				continue
			}
			if last > 0 && !impl.ValueEverywhere(form, n) {
				t.Errorf("ValueMany(%v, %d, %d) is %d, and ValueEverywhere fails", form, n, most, last)
			}
			if last > 0 {
				some++
			} else if !impl.ValueEverywhere(form, n) {
				none++
			}
		}
	}
	for _, form := range append(zeroForms(), []int{1, 1, -1}, []int{2, 3, -30}, []int{1, -1, 1, -1}, []int{1, 1, 1, -6}) {
		check(form, most[len(form)])
	}
	check([]int{1, -1, 1, -1}, manyMax)
	check([]int{1, 1, 1, 1}, manyMax)
	check([]int{30, 10}, manyMax)
	if some == 0 || none == 0 {
		t.Errorf("ValueMany is greater than 0 %d times, and 0 where ValueEverywhere fails %d times", some, none)
	}
	for _, c := range []struct {
		form    []int
		n, size int
	}{
		{[]int{1}, 1001, 1}, {[]int{1}, -1001, 1}, {[]int{1}, 0, 0}, {[]int{1}, 0, 7}, {[]int{1}, 1, -1}, {nil, 1, 1}, {ones(5), 1, 1}, {[]int{31}, 1, 1}, {[]int{1, 0}, 1, 1},
	} {
		if got := impl.ValueMany(c.form, c.n, c.size); got != -1 {
			t.Errorf("ValueMany(%v, %d, %d) is %d", c.form, c.n, c.size, got)
		}
	}
}

func TestPromise99(t *testing.T) {
	planes := map[[2]int]int{}
	for form := range fewForms() {
		longer := slices.Concat([]int{1}, form, []int{-1})
		for _, place := range valuePlaces() {
			got := impl.PlanesAt(form, place)
			planes[[2]int{len(form), got}]++
			if got == -1 || (got > 0) != impl.FormVanishes(form, place) || got > len(form)/2 {
				t.Errorf("PlanesAt(%v, %d) is %d, and FormVanishes %t", form, place, got, impl.FormVanishes(form, place))
			}
			if isForm(longer) && impl.PlanesAt(longer, place) != got+1 {
				t.Errorf("PlanesAt(%v, %d) is %d, with 1 and -1 %d", form, place, got, impl.PlanesAt(longer, place))
			}
		}
	}
	for _, c := range [][2]int{{1, 0}, {2, 0}, {2, 1}, {3, 0}, {3, 1}, {4, 0}, {4, 1}, {4, 2}} {
		if planes[c] == 0 {
			t.Errorf("no form of %d terms has %d planes", c[0], c[1])
		}
	}
	for _, list := range noForms() {
		for _, place := range []int{0, 2, 3} {
			if got := impl.PlanesAt(list, place); got != -1 {
				t.Errorf("PlanesAt(%v, %d) is %d", list, place, got)
			}
		}
	}
	for _, place := range noPlaces() {
		for _, form := range [][]int{{1}, {1, -1}, {1, 1, 1}, {1, -1, 1, -1}} {
			if got := impl.PlanesAt(form, place); got != -1 {
				t.Errorf("PlanesAt(%v, %d) is %d", form, place, got)
			}
		}
	}
}

func TestPromise100(t *testing.T) {
	planes := map[[2]int]int{}
	for form := range fewForms() {
		got := impl.PlanesAll(form)
		planes[[2]int{len(form), got}]++
		if got == -1 || (got > 0) != (len(impl.FormBad(form)) == 0) {
			t.Errorf("PlanesAll(%v) is %d, and FormBad %v", form, got, impl.FormBad(form))
		}
		reached := false
		for _, place := range append(impl.FormPlaces(form), 31, 37, 4993, 4999) {
			at := impl.PlanesAt(form, place)
			if got > at {
				t.Errorf("PlanesAll(%v) is %d, and PlanesAt %d at %d", form, got, at, place)
			}
			reached = reached || got == at
		}
		if !reached {
			t.Errorf("PlanesAll(%v) is %d, and PlanesAt always greater", form, got)
		}
		if longer := slices.Concat([]int{1}, form, []int{-1}); isForm(longer) && impl.PlanesAll(longer) != got+1 {
			t.Errorf("PlanesAll(%v) is %d, with 1 and -1 %d", form, got, impl.PlanesAll(longer))
		}
	}
	for _, c := range [][2]int{{1, 0}, {2, 0}, {2, 1}, {3, 0}, {3, 1}, {4, 0}, {4, 1}, {4, 2}} {
		if planes[c] == 0 {
			t.Errorf("no form of %d terms has %d planes everywhere", c[0], c[1])
		}
	}
	for _, list := range noForms() {
		if got := impl.PlanesAll(list); got != -1 {
			t.Errorf("PlanesAll(%v) is %d", list, got)
		}
	}
}

func TestPromise101(t *testing.T) {
	rests := map[int]bool{}
	failed := 0
	for form := range listsOf(3, mostTerms()) {
		rest, ok := impl.PlanesRest(form)
		good := len(impl.FormBad(form)) == 0 && sizeOf(impl.FormDisc(form)) <= termMax
		if ok != good || !ok && rest != 0 {
			t.Errorf("PlanesRest(%v) is %d, %t, FormBad %v, and FormDisc %d", form, rest, ok, impl.FormBad(form), impl.FormDisc(form))
		}
		if !ok {
			failed++
			continue
		}
		rests[rest] = true
		if !impl.FormSame([]int{1, -1, rest}, form) {
			t.Errorf("PlanesRest(%v) is %d, and not FormSame", form, rest)
		}
		if zero, ok := impl.ZeroFind(form); !ok || !isZero(form, zero) {
			t.Errorf("PlanesRest(%v) is %d, and ZeroFind %v, %t", form, rest, zero, ok)
		}
	}
	if !rests[termMax] || !rests[-termMax] || !rests[1] || !rests[-1] || failed == 0 {
		t.Errorf("PlanesRest fails %d times, and is one of %v", failed, rests)
	}
	for _, form := range append(noForms(), append(longForms(), []int{1}, []int{1, -1}, []int{30, -30}, []int{1, 1})...) {
		if rest, ok := impl.PlanesRest(form); ok || rest != 0 {
			t.Errorf("PlanesRest(%v) is %d, %t", form, rest, ok)
		}
	}
}

func TestPromise102(t *testing.T) {
	few := []int{-30, -12, -7, -3, -2, -1, 1, 2, 3, 6, 10}
	lists := [][][]int{nil, ascendingOf(1, allTerms()), ascendingOf(2, few), ascendingOf(3, few), ascendingOf(4, []int{-3, -1, 1, 2})}
	same := map[[2]int]int{}
	for n := 1; n <= termsMax; n++ {
		for m := 1; m <= termsMax; m++ {
			for _, a := range lists[n] {
				for _, b := range lists[m] {
					holds := impl.WittSame(a, b)
					if holds != impl.WittSame(b, a) || holds && divides(2, n) != divides(2, m) || holds && n+m > termsMax {
						t.Errorf("WittSame(%v, %v) is %t, exchanged %t", a, b, holds, impl.WittSame(b, a))
					}
					if n == m && n+m <= termsMax && holds != impl.FormSame(a, b) {
						t.Errorf("WittSame(%v, %v) is %t, and FormSame %t", a, b, holds, impl.FormSame(a, b))
					}
					if holds {
						same[[2]int{n, m}]++
					}
				}
			}
		}
	}
	if len(same) != 4 || same[[2]int{1, 1}] == 0 || same[[2]int{2, 2}] == 0 || same[[2]int{1, 3}] == 0 || same[[2]int{3, 1}] == 0 {
		t.Errorf("WittSame holds so often for so many terms: %v", same)
	}
	for _, list := range noForms() {
		for _, other := range append(fewLists(), list) {
			if impl.WittSame(list, other) || impl.WittSame(other, list) {
				t.Errorf("WittSame(%v, %v) is %t, exchanged %t", list, other, impl.WittSame(list, other), impl.WittSame(other, list))
			}
		}
	}
}

// fewLists are one form of each number of terms.
func fewLists() [][]int {
	return [][]int{{1}, {1, -1}, {1, 1, -1}, {1, -1, 1, -1}}
}

func TestPromise103(t *testing.T) {
	numbers := map[int]int{}
	for form := range fewForms() {
		for _, place := range valuePlaces() {
			names := shownNames(mustNames(t, place))
			classes := impl.ValueClasses(form, place)
			want := slices.DeleteFunc(slices.Clone(names), func(name int) bool { return !impl.ValueAt(form, name, place) })
			if !slices.Equal(classes, want) {
				t.Errorf("ValueClasses(%v, %d) is %v, and ValueAt holds for %v", form, place, classes, want)
			}
			if impl.PlanesAt(form, place) > 0 && !slices.Equal(classes, names) {
				t.Errorf("ValueClasses(%v, %d) is %v, and PlanesAt %d", form, place, classes, impl.PlanesAt(form, place))
			}
			if len(form) >= 3 && place > 2 && len(names) == 4 {
				numbers[len(classes)]++
				if len(classes) < 3 {
					t.Errorf("ValueClasses(%v, %d) is %v", form, place, classes)
				}
			}
		}
	}
	if numbers[3] == 0 || numbers[4] == 0 {
		t.Errorf("the numbers of forms by their classes at odd primes are %v", numbers)
	}
	for _, list := range noForms() {
		for _, place := range []int{0, 2, 3} {
			if classes := impl.ValueClasses(list, place); len(classes) != 0 {
				t.Errorf("ValueClasses(%v, %d) is %v", list, place, classes)
			}
		}
	}
	for _, place := range noPlaces() {
		for _, form := range fewLists() {
			if classes := impl.ValueClasses(form, place); len(classes) != 0 {
				t.Errorf("ValueClasses(%v, %d) is %v", form, place, classes)
			}
		}
	}
}
