package tests

import (
	"slices"
	"testing"

	"loop.example/localglobal/impl"
)

func TestFormLimits(t *testing.T) {
	if impl.TermsMax != termsMax || impl.TermMax != termMax {
		t.Errorf("TermsMax is %d, TermMax %d", impl.TermsMax, impl.TermMax)
	}
}

func TestFormValid(t *testing.T) {
	for form := range someForms() {
		if !impl.FormValid(form) {
			t.Errorf("FormValid(%v) fails", form)
		}
	}
	for _, list := range noForms() {
		if impl.FormValid(list) {
			t.Errorf("FormValid(%v) holds", list)
		}
	}
	for n := range 7 {
		for list := range listsOf(n, []int{-31, -30, 0, 30, 31}) {
			if impl.FormValid(list) != isForm(list) {
				t.Errorf("FormValid(%v) is %t", list, impl.FormValid(list))
			}
		}
	}
}

func TestFormValue(t *testing.T) {
	vectors := [][]int{{0, 0, 0, 0}, {1, 0, 0, 0}, {0, 1, 0, 0}, {0, 0, 1, 0}, {0, 0, 0, 1}, {1, -2, 3, -4}, {-1000, 1000, 1000, -1000}, {999, 1000, 7, 31}, {1000, 1, 0, -13}}
	for form := range someForms() {
		for _, v := range vectors {
			want := 0
			for i, term := range form {
				want += term * (v[i] * v[i])
			}
			if got, ok := impl.FormValue(form, v[:len(form)]); got != want || !ok {
				t.Errorf("FormValue(%v, %v) is %d, %t, not %d", form, v[:len(form)], got, ok, want)
			}
		}
	}
}

func TestFormValueLimits(t *testing.T) {
	for n := 1; n <= termsMax; n++ {
		eachLimitVector(n, func(v []int, x int, inRange bool) {
			want := 0
			if inRange {
				want = 30 * (n - 1 + x*x)
			}
			if got, ok := impl.FormValue(slices.Repeat([]int{30}, n), v); got != want || ok != inRange {
				t.Errorf("FormValue of %d terms 30 is %d, %t at %v", n, got, ok, v)
			}
		})
		for other := range 7 {
			if got, ok := impl.FormValue(ones(n), ones(other)); ok != (n == other) || !ok && got != 0 {
				t.Errorf("FormValue of %d terms is %d, %t at a vector of %d integers", n, got, ok, other)
			}
		}
	}
	if got, ok := impl.FormValue([]int{1}, nil); got != 0 || ok {
		t.Errorf("FormValue of one term is %d, %t at no vector", got, ok)
	}
}

func TestFormDisc(t *testing.T) {
	for form := range someForms() {
		if got, want := impl.FormDisc(form), coreOf(productOf(form)); got != want {
			t.Errorf("FormDisc(%v) is %d, not %d", form, got, want)
		}
	}
	positive := allTerms()[termMax:]
	for _, form := range ascendingOf(termsMax, positive) {
		form[0] = -form[0]
		if got, want := impl.FormDisc(form), coreOf(productOf(form)); got != want {
			t.Errorf("FormDisc(%v) is %d, not %d", form, got, want)
		}
	}
	for _, c := range []struct {
		form []int
		want int
	}{
		{[]int{29, 23, 19, 17}, 29 * 23 * 19 * 17},
		{[]int{-29, 23, 26, 17}, -29 * 23 * 26 * 17},
		{[]int{29, 26, 23}, 29 * 26 * 23},
		{[]int{30, 30, 30, 30}, 1},
		{[]int{-30, 30, 30}, -30},
		{[]int{29, 28, 27, 26}, 29 * 7 * 3 * 26},
		{[]int{16}, 1},
		{[]int{-25}, -1},
	} {
		if got := impl.FormDisc(c.form); got != c.want {
			t.Errorf("FormDisc(%v) is %d, not %d", c.form, got, c.want)
		}
	}
}

func TestFormSigns(t *testing.T) {
	for form := range someForms() {
		want := len(form) - 2*negativesOf(form)
		if got, ok := impl.FormSigns(form); got != want || !ok {
			t.Errorf("FormSigns(%v) is %d, %t, not %d", form, got, ok, want)
		}
	}
}

func TestFormInvariant(t *testing.T) {
	for _, place := range append(formPlaces(), 37, 4987, 4993) {
		symbol := symbolJudge(place)
		for form := range fewForms() {
			if got, want := impl.FormInvariant(form, place), invariantOf(form, symbol); got != want {
				t.Errorf("FormInvariant(%v, %d) is %d, not %d", form, place, got, want)
			}
		}
	}
	for _, place := range []int{0, 2, 3, 5, 7} {
		symbol := symbolJudge(place)
		for form := range someForms() {
			if got, want := impl.FormInvariant(form, place), invariantOf(form, symbol); got != want {
				t.Errorf("FormInvariant(%v, %d) is %d, not %d", form, place, got, want)
			}
		}
	}
}

func TestFormPlaces(t *testing.T) {
	for form := range someForms() {
		if got, want := impl.FormPlaces(form), placesOfForm(form); !slices.Equal(got, want) {
			t.Errorf("FormPlaces(%v) is %v, not %v", form, got, want)
		}
	}
	if got := impl.FormPlaces([]int{29, 15, -7, 26}); !slices.Equal(got, []int{0, 2, 3, 5, 7, 13, 29}) {
		t.Errorf("FormPlaces is %v", got)
	}
}

func TestFormVanishes(t *testing.T) {
	judge := newFormJudge()
	for _, place := range []int{0, 2, 3, 5, 7, 11, 13, 17, 19, 23, 29, 31} {
		for form := range someForms() {
			if got, want := impl.FormVanishes(form, place), judge.vanishes(form, place); got != want {
				t.Errorf("FormVanishes(%v, %d) is %t", form, place, got)
			}
		}
	}
}

// A form of four terms does not vanish at a prime exactly if it is one of a single class: that of the norms of quaternions.
func TestFormVanishesWithFourTerms(t *testing.T) {
	for _, c := range []struct {
		form []int
		bad  []int
	}{
		{[]int{1, 1, 1, 1}, []int{0, 2}},
		{[]int{-1, -1, -1, -1}, []int{0, 2}},
		{[]int{1, 1, 1, -1}, []int{}},
		{[]int{1, 1, 1, 7}, []int{0}},
		{[]int{1, 1, 1, -7}, []int{2}},
		{[]int{-1, -1, -1, 7}, []int{2}},
		{[]int{1, 1, -3, -3}, []int{2, 3}},
		{[]int{1, -2, 3, -6}, []int{2, 3}},
		{[]int{1, -2, 7, -14}, []int{}},
		{[]int{1, -2, -3, 6}, []int{2, 3}},
		{[]int{1, 1, 3, 3}, []int{0, 3}},
		{[]int{1, -2, -5, 10}, []int{2, 5}},
		{[]int{1, -3, -5, 15}, []int{3, 5}},
		{[]int{3, -9, -15, 5}, []int{3, 5}},
		{[]int{2, -2, 30, 30}, []int{}},
		{[]int{28, 28, 7, 7}, []int{0, 2}},
		{[]int{1, 1, 11, 11}, []int{0, 11}},
		{[]int{1, 2, 29, 29}, []int{0}},
		{[]int{30, 30, 30, 30}, []int{0, 2}},
	} {
		if got := impl.FormBad(c.form); !slices.Equal(got, c.bad) {
			t.Errorf("FormBad(%v) is %v, not %v", c.form, got, c.bad)
		}
		for _, place := range formPlaces() {
			if got := impl.FormVanishes(c.form, place); got == slices.Contains(c.bad, place) {
				t.Errorf("FormVanishes(%v, %d) is %t", c.form, place, got)
			}
		}
	}
}

func TestFormBad(t *testing.T) {
	judge := newFormJudge()
	for form := range fewForms() {
		want := []int{}
		for _, place := range placesOfForm(form) {
			if !judge.vanishes(form, place) {
				want = append(want, place)
			}
		}
		if got := impl.FormBad(form); !slices.Equal(got, want) {
			t.Errorf("FormBad(%v) is %v, not %v", form, got, want)
		}
	}
}

func TestFormAlike(t *testing.T) {
	judge := newFormJudge()
	for _, place := range []int{0, 2, 3, 5, 7, 11, 29, 31} {
		eachFormPair(func(a []int, b []int) {
			if got, want := impl.FormAlike(a, b, place), judge.alike(a, b, place); got != want {
				t.Errorf("FormAlike(%v, %v, %d) is %t", a, b, place, got)
			}
		})
	}
}

func TestFormSame(t *testing.T) {
	judge := newFormJudge()
	same := 0
	eachFormPair(func(a []int, b []int) {
		got, want := impl.FormSame(a, b), judge.same(a, b)
		if got != want {
			t.Errorf("FormSame(%v, %v) is %t", a, b, got)
		}
		if want && len(a) == 4 && !slices.Equal(a, reversed(b)) {
			same++
		}
	})
	if same == 0 {
		t.Error("no two forms of four terms are FormSame")
	}
	// Each of these is told apart by one rule alone: the discriminant, the signs, or the invariant at one of the places of one of both.
	for _, c := range [][2][]int{
		{{1, 29}, {1, 23}}, {{2, 2}, {-2, -2}}, {{1, 1, 1, 1}, {-1, -1, -1, -1}}, {{7, 7, 7, 7}, {-7, -7, -7, -7}}, {{1, 1}, {3, 3}}, {{3, 3}, {1, 1}}, {{1, 1, 1}, {1, 11, 11}}, {{1, 1, 11, 11}, {1, 1, 1, 1}}, {{1, 1, 1, 1}, {1, 1, 23, 23}},
	} {
		if impl.FormSame(c[0], c[1]) {
			t.Errorf("FormSame(%v, %v) holds", c[0], c[1])
		}
	}
}

func TestFormSameOfOtherLengths(t *testing.T) {
	for n := range 6 {
		for m := range 6 {
			want := n == m && n >= 1 && n <= termsMax
			if got := impl.FormSame(ones(n), ones(m)); got != want {
				t.Errorf("FormSame is %t for %d and %d terms", got, n, m)
			}
			for _, place := range formPlaces() {
				if got := impl.FormAlike(ones(n), ones(m), place); got != want {
					t.Errorf("FormAlike at %d is %t for %d and %d terms", place, got, n, m)
				}
			}
		}
	}
}

func TestFormJoin(t *testing.T) {
	for n := range 6 {
		for m := range 6 {
			for _, a := range []int{-30, 1, 30, 31, 0} {
				for _, b := range []int{30, -7, -31, 0} {
					first, second := slices.Repeat([]int{a}, n), slices.Repeat([]int{b}, m)
					want, wantOk := slices.Concat(first, second), isForm(first) && isForm(second) && n+m <= termsMax
					if !wantOk {
						want = nil
					}
					if got, ok := impl.FormJoin(first, second); !slices.Equal(got, want) || ok != wantOk {
						t.Errorf("FormJoin(%v, %v) is %v, %t", first, second, got, ok)
					}
				}
			}
		}
	}
	if got, ok := impl.FormJoin([]int{4, -5}, []int{30, -1}); !ok || !slices.Equal(got, []int{4, -5, 30, -1}) {
		t.Errorf("FormJoin is %v, %t", got, ok)
	}
}

// expectTimes checks FormTimes of a form by a number that is not 0.
func expectTimes(t *testing.T, form []int, n int) {
	t.Helper()
	want := coresOf(form, n)
	wantOk := isForm(want)
	if !wantOk {
		want = nil
	}
	if got, ok := impl.FormTimes(form, n); !slices.Equal(got, want) || ok != wantOk {
		t.Errorf("FormTimes(%v, %d) is %v, %t, not %v", form, n, got, ok, want)
	}
}

func TestFormTimes(t *testing.T) {
	for form := range fewForms() {
		for _, n := range []int{-5000, -4999, -30, -29, -7, -3, -2, -1, 1, 2, 3, 4, 5, 6, 10, 15, 30, 31, 72, 75, 4900, 5000} {
			expectTimes(t, form, n)
		}
	}
	for n := range allNumbers() {
		if n == 0 {
			continue
		}
		for _, form := range [][]int{{1}, {-30}, {29}, {2, -3}, {30, 15, 10}, {1, 1, -1, 1}, {7, 14, 21, 28}, {-6, 10, -15, 30}} {
			expectTimes(t, form, n)
		}
	}
}

func TestFormTimesLimits(t *testing.T) {
	for _, n := range noFactors() {
		for _, form := range [][]int{{1}, {-30, 30}, {1, 2, 3, 6}} {
			if got, ok := impl.FormTimes(form, n); len(got) != 0 || ok {
				t.Errorf("FormTimes(%v, %d) is %v, %t", form, n, got, ok)
			}
		}
	}
	for _, c := range []struct {
		form []int
		n    int
		want []int
	}{
		{[]int{1, 2}, 30, []int{30, 15}},
		{[]int{1, 2}, 31, nil},
		{[]int{2, 1}, -31, nil},
		{[]int{1, 1, 1, 30}, -30, []int{-30, -30, -30, -1}},
		{[]int{30, 15, 10, 6}, -30, []int{-1, -2, -3, -5}},
		{[]int{30, 7}, 7, nil},
		{[]int{4, 9, 25}, 5000, []int{2, 2, 2}},
		{[]int{1}, 4900, []int{1}},
	} {
		if got, ok := impl.FormTimes(c.form, c.n); !slices.Equal(got, c.want) || ok != (c.want != nil) {
			t.Errorf("FormTimes(%v, %d) is %v, %t", c.form, c.n, got, ok)
		}
	}
}

func TestFormCores(t *testing.T) {
	for form := range someForms() {
		if got, ok := impl.FormCores(form); !slices.Equal(got, coresOf(form, 1)) || !ok {
			t.Errorf("FormCores(%v) is %v, %t", form, got, ok)
		}
	}
}

// expectNoForm checks all functions for a list that is no form.
func expectNoForm(t *testing.T, list []int) {
	t.Helper()
	value, valueOk := impl.FormValue(list, make([]int, len(list)))
	signs, signsOk := impl.FormSigns(list)
	times, timesOk := impl.FormTimes(list, 1)
	cores, coresOk := impl.FormCores(list)
	if valueOk || signsOk || timesOk || coresOk {
		t.Errorf("for %v, FormValue is %t, FormSigns %t, FormTimes %t, FormCores %t", list, valueOk, signsOk, timesOk, coresOk)
	}
	if value != 0 || signs != 0 || len(times) != 0 || len(cores) != 0 || impl.FormDisc(list) != 0 {
		t.Errorf("for %v, FormValue is %d, FormSigns %d, FormTimes %v, FormCores %v, FormDisc %d", list, value, signs, times, cores, impl.FormDisc(list))
	}
	if len(impl.FormPlaces(list)) != 0 || len(impl.FormBad(list)) != 0 || impl.FormSame(list, list) {
		t.Errorf("for %v, FormPlaces is %v, FormBad %v, FormSame %t", list, impl.FormPlaces(list), impl.FormBad(list), impl.FormSame(list, list))
	}
	for _, place := range []int{0, 2, 3, 31, 4999, 1} {
		if impl.FormInvariant(list, place) != 0 || impl.FormVanishes(list, place) || impl.FormAlike(list, list, place) {
			t.Errorf("for %v at %d, FormInvariant is %d, FormVanishes %t, FormAlike %t", list, place, impl.FormInvariant(list, place), impl.FormVanishes(list, place), impl.FormAlike(list, list, place))
		}
	}
	for n := 1; n <= termsMax; n++ {
		other := ones(n)
		if impl.FormSame(list, other) || impl.FormSame(other, list) || impl.FormAlike(list, other, 5) || impl.FormAlike(other, list, 0) {
			t.Errorf("FormSame or FormAlike holds for %v and %v", list, other)
		}
		first, firstOk := impl.FormJoin(list, other)
		second, secondOk := impl.FormJoin(other, list)
		if firstOk || secondOk || len(first) != 0 || len(second) != 0 {
			t.Errorf("FormJoin of %v and %v is %v, %t, exchanged %v, %t", list, other, first, firstOk, second, secondOk)
		}
	}
	if joined, ok := impl.FormJoin(list, list); ok || len(joined) != 0 {
		t.Errorf("FormJoin of %v twice is %v, %t", list, joined, ok)
	}
}

func TestFormsOfNoForms(t *testing.T) {
	for _, list := range noForms() {
		expectNoForm(t, list)
	}
}

func TestFormsAtNoPlaces(t *testing.T) {
	for _, place := range noPlaces() {
		for _, form := range [][]int{{1}, {1, -1}, {1, 1, -1}, {1, -1, 1, -1}, {30, -30, 30, 30}} {
			if got := impl.FormInvariant(form, place); got != 0 {
				t.Errorf("FormInvariant(%v, %d) is %d", form, place, got)
			}
			if impl.FormVanishes(form, place) {
				t.Errorf("FormVanishes(%v, %d) holds", form, place)
			}
			if impl.FormAlike(form, form, place) {
				t.Errorf("FormAlike(%v, %v, %d) holds", form, form, place)
			}
		}
	}
}

func TestFormsKeepNothing(t *testing.T) {
	// The memory behind the forms belongs to the caller, too.
	memory := []int{8, -12, 7, 9, 25, -6}
	kept := slices.Clone(memory)
	a, b := memory[:2], memory[2:4]
	results := func() [][]int {
		joined, _ := impl.FormJoin(a, b)
		times, _ := impl.FormTimes(a, 6)
		cores, _ := impl.FormCores(a)
		same, _ := impl.FormCores([]int{5, 6})
		return [][]int{joined, times, cores, same, impl.FormPlaces(a), impl.FormBad(a)}
	}
	want := [][]int{{8, -12, 7, 9}, {3, -2}, {2, -3}, {5, 6}, {0, 2, 3}, {2, 3}}
	for range 2 {
		for i, result := range results() {
			if !slices.Equal(result, want[i]) {
				t.Errorf("result %d is %v, not %v", i, result, want[i])
			}
			clear(result[:cap(result)])
		}
		if !slices.Equal(memory, kept) {
			t.Fatalf("the forms are %v, and were %v", memory, kept)
		}
	}
}

func TestFormsDoNotChange(t *testing.T) {
	memory := []int{8, -12, 9, 30, 4, 18, -27, 16}
	kept := slices.Clone(memory)
	a, b := memory[:4], memory[4:]
	for range 2 {
		impl.FormValid(a)
		impl.FormValue(a, b)
		impl.FormDisc(a)
		impl.FormSigns(a)
		impl.FormInvariant(a, 2)
		impl.FormPlaces(a)
		impl.FormVanishes(a, 3)
		impl.FormBad(a)
		impl.FormAlike(a, b, 2)
		impl.FormSame(a, b)
		impl.FormJoin(a[:2], b[:2])
		impl.FormTimes(a, 6)
		impl.FormCores(a)
		if !slices.Equal(memory, kept) {
			t.Fatalf("the forms are %v, and were %v", memory, kept)
		}
	}
}
