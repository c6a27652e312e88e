package tests

import (
	"slices"
	"testing"

	"loop.example/localglobal/impl"
)

func TestPromise35(t *testing.T) {
	for _, p := range primesTo(2, numberMax) {
		want := 2
		if p == 2 {
			want = 4
		} else if impl.LocalSquare(-1, p) {
			want = 1
		}
		level := impl.LocalLevel(p)
		if level != want {
			t.Errorf("LocalLevel(%d) is %d, not %d", p, level, want)
		}
		for n := 1; n <= level && n <= termsMax; n++ {
			if impl.FormVanishes(ones(n), p) {
				t.Errorf("FormVanishes(%v, %d) holds, and LocalLevel is %d", ones(n), p, level)
			}
		}
		// At 2 the document's form would have five terms, and FormVanishes takes no list of so many.
		if got := impl.FormVanishes(ones(level+1), p); got != (p != 2) {
			t.Errorf("FormVanishes(%v, %d) is %t, and LocalLevel %d", ones(level+1), p, got, level)
		}
	}
	for _, place := range append(noPlaces(), 0) {
		if got := impl.LocalLevel(place); got != -1 {
			t.Errorf("LocalLevel(%d) is %d", place, got)
		}
	}
}

func TestPromise36(t *testing.T) {
	vectors := [][]int{{1, 2, 3, 4}, {0, -1, 5, 17}, {500, -500, 499, 250}, {501, 0, 1, 2}, {-1000, 7, 1000, 3}}
	for form := range fewForms() {
		for _, long := range vectors {
			v := long[:len(form)]
			value := mustValue(t, form, v)
			twice := slices.Clone(v)
			for i := range twice {
				twice[i] *= 2
			}
			inRange := slices.Max(twice) <= vectorMax && slices.Min(twice) >= -vectorMax
			got, ok := impl.FormValue(form, twice)
			if ok != inRange || ok && got != 4*value {
				t.Errorf("FormValue(%v, %v) is %d, for the vector times 2 %d, %t", form, v, value, got, ok)
			}
			if mustValue(t, form, opposites(v)) != value || mustValue(t, reversed(form), reversed(v)) != value {
				t.Errorf("FormValue(%v, %v) is %d, for the opposite vector or order it is not", form, v, value)
			}
		}
	}
	for _, c := range []struct{ form, v []int }{
		{nil, nil}, {[]int{1}, nil}, {[]int{1}, []int{1, 0}}, {[]int{1, 1}, []int{1}}, {[]int{1, 1}, []int{0, 1001}}, {[]int{1, 1}, []int{-1001, 0}}, {[]int{1, 0}, []int{1, 1}}, {[]int{31}, []int{1}}, {ones(5), ones(5)},
	} {
		if got, ok := impl.FormValue(c.form, c.v); ok || got != 0 {
			t.Errorf("FormValue(%v, %v) is %d, %t", c.form, c.v, got, ok)
		}
	}
}

func TestPromise37(t *testing.T) {
	for form := range someForms() {
		disc := impl.FormDisc(form)
		if disc == 0 {
			t.Errorf("FormDisc(%v) is 0", form)
		}
		if !isNumber(disc) {
			continue
		}
		if core, root := mustCore(t, disc); core != disc || root != 1 {
			t.Errorf("FormDisc(%v) is %d, and no core", form, disc)
		}
		for n := 1; n < len(form); n++ {
			first, others := impl.FormDisc(form[:n]), impl.FormDisc(form[n:])
			if !isNumber(first) || !isNumber(others) {
				continue
			}
			for _, place := range []int{0, 2, 3, 5} {
				if mustMul(t, first, others, place) != mustName(t, disc, place) {
					t.Errorf("FormDisc(%v) is %d, of the first %d terms %d, of the others %d; not so at %d", form, disc, n, first, others, place)
				}
			}
		}
	}
	for _, list := range noForms() {
		if got := impl.FormDisc(list); got != 0 {
			t.Errorf("FormDisc(%v) is %d", list, got)
		}
	}
}

func TestPromise38(t *testing.T) {
	for form := range someForms() {
		signs := mustSigns(t, form)
		if signs < -len(form) || signs > len(form) || divides(2, signs) != divides(2, len(form)) {
			t.Errorf("FormSigns(%v) is %d", form, signs)
		}
		if mustSigns(t, opposites(form)) != -signs {
			t.Errorf("FormSigns(%v) is %d, of the opposites %d", form, signs, mustSigns(t, opposites(form)))
		}
		for n := 1; n < len(form); n++ {
			if mustSigns(t, form[:n])+mustSigns(t, form[n:]) != signs {
				t.Errorf("FormSigns(%v) is %d, and not the sum for the first %d terms and the others", form, signs, n)
			}
		}
	}
	for _, form := range [][]int{{30}, {1, 30}, {1, 2, 3}, {1, 2, 3, 4}} {
		if got := mustSigns(t, form); got != len(form) {
			t.Errorf("FormSigns(%v) is %d", form, got)
		}
	}
	for _, list := range noForms() {
		if got, ok := impl.FormSigns(list); ok || got != 0 {
			t.Errorf("FormSigns(%v) is %d, %t", list, got, ok)
		}
	}
}

func TestPromise39(t *testing.T) {
	for form := range fewForms() {
		for _, place := range formPlaces() {
			invariant := impl.FormInvariant(form, place)
			if invariant != 1 && invariant != -1 {
				t.Errorf("FormInvariant(%v, %d) is %d", form, place, invariant)
			}
			if impl.FormInvariant(reversed(form), place) != invariant || impl.FormInvariant(mustCores(t, form), place) != invariant {
				t.Errorf("FormInvariant(%v, %d) is %d, in the opposite order or for the cores it is not", form, place, invariant)
			}
			for n := 1; n < len(form); n++ {
				first, others := form[:n], form[n:]
				x, y := impl.FormDisc(first), impl.FormDisc(others)
				if !isNumber(x) || !isNumber(y) {
					continue
				}
				product := impl.FormInvariant(first, place) * impl.FormInvariant(others, place) * impl.SymbolOf(x, y, place)
				if product != invariant {
					t.Errorf("FormInvariant(%v, %d) is %d, by the first %d terms and the others %d", form, place, invariant, n, product)
				}
			}
		}
	}
	for _, list := range noForms() {
		if got := impl.FormInvariant(list, 2); got != 0 {
			t.Errorf("FormInvariant(%v, 2) is %d", list, got)
		}
	}
	for _, place := range noPlaces() {
		if got := impl.FormInvariant([]int{1, -1}, place); got != 0 {
			t.Errorf("FormInvariant of 1 and -1 at %d is %d", place, got)
		}
	}
}

func TestPromise40(t *testing.T) {
	others := primesTo(2, 31)
	for form := range someForms() {
		places := impl.FormPlaces(form)
		if len(places) < 2 || places[0] != 0 || places[1] != 2 {
			t.Fatalf("FormPlaces(%v) is %v", form, places)
		}
		sign := 1
		for i, place := range places {
			sign *= impl.FormInvariant(form, place)
			if i > 0 && places[i-1] >= place {
				t.Errorf("FormPlaces(%v) is %v", form, places)
			}
		}
		if sign != 1 {
			t.Errorf("FormInvariant of %v is -1 at an odd number of the places %v", form, places)
		}
		for _, p := range others {
			if !slices.Contains(places, p) && impl.FormInvariant(form, p) != 1 {
				t.Errorf("FormInvariant(%v, %d) is %d, the places are %v", form, p, impl.FormInvariant(form, p), places)
			}
		}
	}
	for _, list := range noForms() {
		if got := impl.FormPlaces(list); len(got) != 0 {
			t.Errorf("FormPlaces(%v) is %v", list, got)
		}
	}
}

func TestPromise41(t *testing.T) {
	vanishing, failing := 0, 0
	for form := range fewForms() {
		for _, place := range []int{0, 2, 3, 5, 7, 31} {
			if !impl.FormVanishes(form, place) {
				failing++
				continue
			}
			vanishing++
			for _, term := range []int{-30, -7, -1, 1, 2, 3, 5, 15, 21} {
				if longer := append(slices.Clone(form), term); isForm(longer) && !impl.FormVanishes(longer, place) {
					t.Errorf("FormVanishes(%v, %d) holds, and not with %d", form, place, term)
				}
			}
			if !impl.FormVanishes(mustCores(t, form), place) || !impl.FormVanishes(opposites(form), place) {
				t.Errorf("FormVanishes(%v, %d) holds, and not for the cores or for the opposites", form, place)
			}
			for _, n := range []int{-5000, -6, -1, 2, 3, 5, 14, 15, 30, 4900} {
				if times, ok := impl.FormTimes(form, n); ok && !impl.FormVanishes(times, place) {
					t.Errorf("FormVanishes(%v, %d) holds, and not for %v", form, place, times)
				}
			}
		}
	}
	if vanishing == 0 || failing == 0 {
		t.Errorf("FormVanishes holds %d times, and fails %d times", vanishing, failing)
	}
}

func TestPromise42(t *testing.T) {
	for form := range fewForms() {
		for _, p := range []int{3, 5, 7, 11, 13, 17, 29, 31, 37, 4993, 4999} {
			if slices.ContainsFunc(form, func(term int) bool { return divides(p, term) }) {
				continue
			}
			want := len(form) >= 3 || len(form) == 2 && impl.ResidueIs(-productOf(form), p) == 1
			if got := impl.FormVanishes(form, p); got != want {
				t.Errorf("FormVanishes(%v, %d) is %t", form, p, got)
			}
		}
	}
	for _, p := range primesTo(31, numberMax) {
		for _, form := range [][]int{{1}, {-30}, {1, 1}, {29, -7}, {2, -30}, {1, 1, 1}, {30, 29, 23}, {1, 1, 1, 1}, {-30, -29, -23, -19}} {
			want := len(form) >= 3 || len(form) == 2 && impl.ResidueIs(-productOf(form), p) == 1
			if got := impl.FormVanishes(form, p); got != want {
				t.Errorf("FormVanishes(%v, %d) is %t", form, p, got)
			}
		}
	}
}

func TestPromise43(t *testing.T) {
	for form := range someForms() {
		bad, want := impl.FormBad(form), []int{}
		for _, place := range impl.FormPlaces(form) {
			if !impl.FormVanishes(form, place) {
				want = append(want, place)
			}
		}
		if !slices.Equal(bad, want) {
			t.Errorf("FormBad(%v) is %v, not %v", form, bad, want)
		}
		if len(form) == 3 && !divides(2, len(bad)) || len(form) == 1 && !slices.Equal(bad, impl.FormPlaces(form)) {
			t.Errorf("FormBad(%v) is %v", form, bad)
		}
	}
	for _, list := range noForms() {
		if got := impl.FormBad(list); len(got) != 0 {
			t.Errorf("FormBad(%v) is %v", list, got)
		}
	}
}

func TestPromise44(t *testing.T) {
	same := map[int]int{}
	eachFormPair(func(a []int, b []int) {
		if !impl.FormSame(a, b) {
			return
		}
		if !slices.Equal(a, reversed(b)) {
			same[len(a)]++
		}
		if !impl.FormSame(b, a) || mustSigns(t, a) != mustSigns(t, b) {
			t.Errorf("FormSame(%v, %v) holds, and not exchanged, or FormSigns are not equal", a, b)
		}
		for _, place := range []int{0, 2, 3, 5, 7} {
			if !impl.FormAlike(a, b, place) || !impl.FormAlike(b, a, place) {
				t.Errorf("FormSame(%v, %v) holds, and FormAlike at %d not", a, b, place)
			}
		}
		for _, term := range []int{-30, -2, -1, 1, 3, 5, 14, 29} {
			longerA, longerB := append(slices.Clone(a), term), append(slices.Clone(b), term)
			if isForm(longerA) && !impl.FormSame(longerA, longerB) {
				t.Errorf("FormSame(%v, %v) holds, and not with %d", a, b, term)
			}
		}
	})
	for n := 1; n <= termsMax; n++ {
		if same[n] == 0 {
			t.Errorf("no two forms of %d terms are FormSame", n)
		}
	}
	if impl.FormSame([]int{1}, []int{1, 1}) || impl.FormSame(nil, nil) || impl.FormSame(ones(5), ones(5)) || impl.FormSame([]int{31}, []int{31}) {
		t.Error("FormSame holds for forms of different lengths, or for no forms")
	}
}

func TestPromise45(t *testing.T) {
	for n, terms := range [][]int{allTerms(), {-30, -12, -7, -3, -2, -1, 1, 2, 3, 5, 6, 10}, {-10, -6, -3, -1, 1, 2, 5, 15}} {
		forms := ascendingOf(n+1, terms)
		for _, a := range forms {
			for _, b := range forms {
				want := impl.FormSame(a, b)
				for _, term := range []int{-30, -5, -1, 2, 3, 28} {
					longerA, longerB := append(slices.Clone(a), term), append([]int{term}, b...)
					if got := impl.FormSame(longerA, longerB); got != want {
						t.Errorf("FormSame(%v, %v) is %t, without %d %t", longerA, longerB, got, term, want)
					}
				}
			}
		}
	}
}

func TestPromise46(t *testing.T) {
	for form := range listsOf(2, allTerms()) {
		values := map[int]bool{}
		for x := -6; x <= 6; x++ {
			for y := -1; y <= 6; y++ {
				values[mustValue(t, form, []int{x, y})] = true
			}
		}
		for _, value := range allTerms() {
			other := coresOf([]int{value, productOf(form) * value}, 1)
			if !values[value] || !isForm(other) {
				continue
			}
			if !impl.FormSame(form, other) || !impl.FormSame(other, form) {
				t.Errorf("FormSame(%v, %v) fails, and %d is a value", form, other, value)
			}
		}
	}
	if !impl.FormSame([]int{1, 1}, []int{2, 2}) || !impl.FormSame([]int{2, 3}, []int{5, 30}) || impl.FormSame([]int{1, 1}, []int{3, 3}) {
		t.Error("FormSame fails for a value, or holds where there is none")
	}
}

func TestPromise47(t *testing.T) {
	for n, terms := range [][]int{{-30, -12, -5, -1, 1, 2, 7, 18, 29}, {-30, -6, -1, 2, 15}, {-10, -1, 3, 8}} {
		for m := 1; n+1+m <= termsMax; m++ {
			for a := range listsOf(n+1, terms) {
				for b := range listsOf(m, []int{-29, -2, 1, 5, 30}) {
					joined, ok := impl.FormJoin(a, b)
					if !ok || !slices.Equal(joined, slices.Concat(a, b)) || mustSigns(t, joined) != mustSigns(t, a)+mustSigns(t, b) {
						t.Errorf("FormJoin(%v, %v) is %v, %t", a, b, joined, ok)
					}
					exchanged, ok := impl.FormJoin(b, a)
					if !ok || !impl.FormSame(joined, exchanged) {
						t.Errorf("FormJoin(%v, %v) is %v, exchanged %v, %t", a, b, joined, exchanged, ok)
					}
				}
			}
		}
	}
	for _, c := range [][2][]int{{ones(4), ones(1)}, {ones(1), ones(4)}, {ones(3), ones(2)}, {ones(2), ones(3)}, {ones(4), ones(4)}, {nil, ones(1)}, {ones(1), nil}, {nil, nil}, {{0}, {1}}, {{1}, {31}}, {ones(5), nil}} {
		if joined, ok := impl.FormJoin(c[0], c[1]); ok || len(joined) != 0 {
			t.Errorf("FormJoin(%v, %v) is %v, %t", c[0], c[1], joined, ok)
		}
	}
}

func TestPromise48(t *testing.T) {
	succeeded, failed := 0, 0
	for form := range fewForms() {
		for _, n := range []int{-5000, -4999, -210, -30, -7, -4, -3, -1, 1, 2, 3, 5, 6, 10, 15, 28, 4900, 4999} {
			times, ok := impl.FormTimes(form, n)
			if !ok {
				failed++
				continue
			}
			succeeded++
			again, ok := impl.FormTimes(times, n)
			if !ok || !slices.Equal(again, mustCores(t, form)) {
				t.Errorf("FormTimes(%v, %d) is %v, and again %v, %t", form, n, times, again, ok)
			}
			for _, place := range []int{0, 2, 3, 5} {
				if impl.FormVanishes(times, place) != impl.FormVanishes(form, place) {
					t.Errorf("FormTimes(%v, %d) is %v, FormVanishes at %d %t", form, n, times, place, impl.FormVanishes(times, place))
				}
			}
			if divides(2, len(form)) && impl.FormDisc(times) != impl.FormDisc(form) {
				t.Errorf("FormTimes(%v, %d) is %v, FormDisc %d, not %d", form, n, times, impl.FormDisc(times), impl.FormDisc(form))
			}
		}
	}
	if succeeded == 0 || failed == 0 {
		t.Errorf("FormTimes succeeds %d times, and fails %d times", succeeded, failed)
	}
	for _, n := range noFactors() {
		if times, ok := impl.FormTimes([]int{1, -2}, n); ok || len(times) != 0 {
			t.Errorf("FormTimes of 1 and -2 by %d is %v, %t", n, times, ok)
		}
	}
}

func TestPromise49(t *testing.T) {
	for form := range someForms() {
		cores := mustCores(t, form)
		if !slices.Equal(mustCores(t, cores), cores) || !impl.FormSame(cores, form) {
			t.Errorf("FormCores(%v) is %v, its own %v, FormSame %t", form, cores, mustCores(t, cores), impl.FormSame(cores, form))
		}
		for _, place := range impl.FormPlaces(form) {
			if impl.FormVanishes(cores, place) != impl.FormVanishes(form, place) {
				t.Errorf("FormCores(%v) is %v, FormVanishes at %d %t", form, cores, place, impl.FormVanishes(cores, place))
			}
		}
		for i, term := range form {
			if core, _ := mustCore(t, term); cores[i] != core {
				t.Errorf("FormCores(%v) is %v", form, cores)
			}
		}
	}
	for _, list := range noForms() {
		if cores, ok := impl.FormCores(list); ok || len(cores) != 0 {
			t.Errorf("FormCores(%v) is %v, %t", list, cores, ok)
		}
	}
}
