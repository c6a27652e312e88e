package tests

import (
	"math"
	"slices"
	"testing"

	"loop.example/localglobal/impl"
)

func TestConicLimits(t *testing.T) {
	if impl.ConicMax != conicMax {
		t.Errorf("ConicMax is %d", impl.ConicMax)
	}
}

func TestConicPoint(t *testing.T) {
	for _, form := range conicForms() {
		for v := range listsOf(3, sizesTo(3)) {
			want := isZero(form, v) && slices.Equal(plainOf(v), v)
			if got := impl.ConicPoint(form, v); got != want {
				t.Errorf("ConicPoint(%v, %v) is %t", form, v, got)
			}
		}
	}
	axes, highest := map[int]int{}, 0
	eachPoint(func(form []int, v []int) {
		axes[axisOf(v)]++
		highest = max(highest, heightOf(v))
		if !isPoint(form, v) {
			t.Fatalf("%v is no point of %v", v, form)
		}
		if !impl.ConicPoint(form, v) {
			t.Errorf("ConicPoint(%v, %v) fails", form, v)
		}
	})
	if axes[0] == 0 || axes[1] == 0 || axes[2] > 0 || highest != conicMax {
		t.Errorf("the numbers of points by their axes are %v, and the greatest height %d", axes, highest)
	}
}

// expectNoPoint checks all functions for a form and a vector of which ConicPoint does not hold.
func expectNoPoint(t *testing.T, form []int, v []int) {
	t.Helper()
	if impl.ConicPoint(form, v) {
		t.Errorf("ConicPoint(%v, %v) holds", form, v)
	}
	for _, w := range [][]int{{1, 0, 0}, {0, 1, 0}, {1, 2, -3}, {1, 1, 0}, nil, v} {
		if zero, ok := impl.ConicOther(form, v, w); ok || len(zero) != 0 {
			t.Errorf("ConicOther(%v, %v, %v) is %v, %t", form, v, w, zero, ok)
		}
		if s, x, ok := impl.ConicBack(form, v, w); ok || s != 0 || x != 0 {
			t.Errorf("ConicBack(%v, %v, %v) is %d, %d, %t", form, v, w, s, x, ok)
		}
	}
	for _, h := range [][2]int{{0, 1}, {1, 0}, {3, -2}, {0, 0}} {
		if zero, ok := impl.ConicAt(form, v, h[0], h[1]); ok || len(zero) != 0 {
			t.Errorf("ConicAt(%v, %v, %d, %d) is %v, %t", form, v, h[0], h[1], zero, ok)
		}
	}
	for n := range metMax + 2 {
		if got := impl.ConicMany(form, v, n); got != -1 {
			t.Errorf("ConicMany(%v, %v, %d) is %d", form, v, n, got)
		}
	}
}

func TestConicsWithoutPoints(t *testing.T) {
	for _, c := range noPoints() {
		expectNoPoint(t, c.form, c.v)
	}
	for _, c := range farPoints() {
		expectNoPoint(t, c.form, opposites(c.v))
		expectNoPoint(t, c.form, timesAll(c.v, 2))
		expectNoPoint(t, c.form[:2], c.v)
		expectNoPoint(t, c.form, c.v[:2])
		expectNoPoint(t, c.form, append(slices.Clone(c.v), 0))
		expectNoPoint(t, append(slices.Clone(c.form), 1), append(slices.Clone(c.v), 0))
	}
}

// expectOther checks ConicOther for a point and any direction.
func expectOther(t *testing.T, form []int, v []int, w []int) {
	t.Helper()
	want := otherOf(form, v, w)
	if got, ok := impl.ConicOther(form, v, w); !slices.Equal(got, want) || ok != (want != nil) {
		t.Errorf("ConicOther(%v, %v, %v) is %v, %t, not %v", form, v, w, got, ok, want)
	}
}

func TestConicOther(t *testing.T) {
	directions := slices.Collect(listsOf(3, []int{-2, 0, 1}))
	directions = append(directions, []int{20, -20, 20}, []int{-20, 0, 19}, []int{0, 20, 3}, []int{7, 0, -20}, []int{6, 10, 15}, []int{-12, 12, 4}, []int{20, 0, 0})
	eachPoint(func(form []int, v []int) {
		for _, w := range directions {
			expectOther(t, form, v, w)
		}
	})
}

func TestConicOtherOfMultiples(t *testing.T) {
	eachPoint(func(form []int, v []int) {
		for _, n := range []int{0, 1, -1, 2, -3, 5, 20, -20} {
			if got, ok := impl.ConicOther(form, v, timesAll(v, n)); ok || len(got) != 0 {
				t.Errorf("ConicOther(%v, %v, %v) is %v, %t", form, v, timesAll(v, n), got, ok)
			}
		}
	})
}

func TestConicOtherOfSomeLines(t *testing.T) {
	for _, c := range []struct{ form, v, w, want []int }{
		{[]int{1, 1, -1}, []int{1, 0, 1}, []int{0, 1, 2}, []int{3, -4, -5}},
		{[]int{1, 1, -1}, []int{1, 0, 1}, []int{0, -1, -2}, []int{3, -4, -5}},
		{[]int{1, 1, -1}, []int{1, 0, 1}, []int{1, 0, 0}, []int{1, 0, -1}},
		{[]int{1, 1, -1}, []int{1, 0, 1}, []int{3, 4, 5}, []int{3, 4, 5}}, // The direction is a zero itself.
		{[]int{1, 1, -1}, []int{1, 0, 1}, []int{-6, 8, 10}, []int{3, -4, -5}},
		{[]int{1, 1, -1}, []int{1, 0, 1}, []int{0, 1, 0}, []int{1, 0, 1}}, // These lines meet the point alone.
		{[]int{1, 1, -1}, []int{1, 0, 1}, []int{0, -7, 0}, []int{1, 0, 1}},
		{[]int{1, 1, -1}, []int{1, 0, 1}, []int{5, 2, 5}, []int{1, 0, 1}},
		{[]int{2, 3, -5}, []int{1, 1, 1}, []int{0, 5, 3}, []int{1, 1, 1}},
		{[]int{2, 3, -5}, []int{1, 1, 1}, []int{1, 6, 4}, []int{1, 1, 1}},
		{[]int{7, 1, -1}, []int{0, 1, 1}, []int{1, 0, 0}, []int{0, 1, 1}},
		{[]int{7, 1, -1}, []int{0, 1, 1}, []int{-20, 3, 3}, []int{0, 1, 1}},
		{[]int{7, 1, -1}, []int{0, 1, 1}, []int{1, 0, 1}, []int{1, 3, 4}},
		{[]int{7, 1, -1}, []int{0, 1, -1}, []int{1, 1, 0}, []int{1, -3, 4}},
		{[]int{1, 1, -1}, []int{1, 0, 1}, []int{0, 20, 0}, []int{1, 0, 1}},
		{[]int{1, 1, -1}, []int{1, 0, 1}, []int{0, 21, 0}, nil},
		{[]int{1, 1, -1}, []int{1, 0, 1}, []int{0, 0, 0}, nil},
		{[]int{1, 1, -1}, []int{1, 0, 1}, []int{-20, 0, -20}, nil},
		{[]int{1, 1, -1}, []int{1, 0, 1}, []int{-20, 0, 20}, []int{1, 0, -1}},
		{[]int{1, 1, -1}, []int{1, 0, 1}, []int{-21, 0, 21}, nil},
		// Zeros at the greatest size, and just beyond it.
		{[]int{-1, 3, 13}, []int{1000, -29, 277}, []int{0, 9, 17}, []int{1000000, -300953, -236689}},
		{[]int{-3, -13, 1}, []int{3, -61, 220}, []int{10, 20, -7}, []int{300953, 236689, 1000000}},
		{[]int{-3, 1, -13}, []int{3, -220, 61}, []int{10, 7, -20}, []int{300953, -1000000, -236689}},
		{[]int{-7, -1, 7}, []int{339, -196, 347}, []int{20, 15, -1}, []int{427429, 999999, -570572}},
		{[]int{-2, -30, 17}, []int{173, -25, 68}, []int{20, -19, -3}, nil}, // 1000001, 649319 and 928264
		{[]int{-3, 11, 3}, []int{989, -369, 692}, []int{5, 12, -14}, nil},  // 1000001, 482925 and -380624
		{[]int{-3, 3, 11}, []int{989, 692, 369}, []int{-5, 14, 12}, nil},
	} {
		if got, ok := impl.ConicOther(c.form, c.v, c.w); !slices.Equal(got, c.want) || ok != (c.want != nil) {
			t.Errorf("ConicOther(%v, %v, %v) is %v, %t, not %v", c.form, c.v, c.w, got, ok, c.want)
		}
	}
}

// noDirectionComponents are integers that no function takes for one of a direction or of a heading.
func noDirectionComponents() []int {
	return append(noZeroComponents(), directionMax+1, -directionMax-1, 22, -40, 100, -1000, 256, 65536+1)
}

func TestConicOtherLimits(t *testing.T) {
	for _, c := range []struct{ form, v []int }{{[]int{1, 1, -1}, []int{1, 0, 1}}, {[]int{5, 1, -4}, []int{0, 2, 1}}, {[]int{1, 1, -2}, []int{1, -1, 1}}} {
		for i := range 3 {
			for _, x := range append(noDirectionComponents(), directionMax, -directionMax, directionMax-1) {
				w := []int{3, -1, 2}
				w[i] = x
				expectOther(t, c.form, c.v, w)
			}
		}
		for n := range 7 {
			expectOther(t, c.form, c.v, append(ones(n), 2)[:n])
			expectOther(t, c.form, c.v, slices.Repeat([]int{2, 1}, n)[:n])
			expectOther(t, c.form, c.v, make([]int, n))
		}
		expectOther(t, c.form, c.v, nil)
	}
}

// expectAt checks ConicAt for a point and any two integers.
func expectAt(t *testing.T, form []int, v []int, x int, y int) {
	t.Helper()
	want := atOf(form, v, x, y)
	if got, ok := impl.ConicAt(form, v, x, y); !slices.Equal(got, want) || ok != (want != nil) {
		t.Errorf("ConicAt(%v, %v, %d, %d) is %v, %t, not %v", form, v, x, y, got, ok, want)
	}
}

func TestConicAt(t *testing.T) {
	found, tooHigh := 0, 0
	eachPoint(func(form []int, v []int) {
		for _, h := range [][2]int{{0, 1}, {0, -6}, {1, 0}, {4, 0}, {1, 1}, {-3, 3}, {2, -5}, {-7, -11}, {20, 19}, {-20, 13}, {17, 20}, {20, -20}, {9, 17}, {-9, -17}} {
			expectAt(t, form, v, h[0], h[1])
			if atOf(form, v, h[0], h[1]) == nil {
				tooHigh++
			} else {
				found++
			}
		}
		for _, h := range [][2]int{{0, 0}, {0, 21}, {21, 0}, {21, 1}, {2, -21}} {
			expectAt(t, form, v, h[0], h[1])
		}
	})
	if found == 0 || tooHigh == 0 {
		t.Errorf("%d zeros are in range, and %d too high", found, tooHigh)
	}
}

func TestConicAtOfSomeHeadings(t *testing.T) {
	for _, c := range []struct {
		form, v []int
		s, t    int
		want    []int
	}{
		{[]int{1, 1, -1}, []int{1, 0, 1}, 1, 2, []int{3, -4, -5}},
		{[]int{1, 1, -1}, []int{1, 0, 1}, -1, -2, []int{3, -4, -5}},
		{[]int{1, 1, -1}, []int{1, 0, 1}, 10, 20, []int{3, -4, -5}},
		{[]int{1, 1, -1}, []int{1, 0, 1}, 11, 22, nil},
		{[]int{1, 1, -1}, []int{1, 0, 1}, 0, 1, []int{1, 0, -1}},
		{[]int{1, 1, -1}, []int{1, 0, 1}, 1, 0, []int{1, 0, 1}},
		{[]int{1, 1, -1}, []int{1, 0, 1}, -20, 0, []int{1, 0, 1}},
		{[]int{1, 1, -1}, []int{1, 0, 1}, 21, 0, nil},
		{[]int{1, 1, -1}, []int{1, 0, 1}, 1, 1, []int{0, 1, 1}},
		{[]int{1, 1, -1}, []int{1, 0, 1}, 0, 0, nil},
		{[]int{7, 1, -1}, []int{0, 1, 1}, 1, 0, []int{0, 1, 1}},
		{[]int{7, 1, -1}, []int{0, 1, 1}, 0, 1, []int{0, 1, -1}},
		{[]int{7, 1, -1}, []int{0, 1, 1}, 1, 1, []int{1, 3, 4}},
		{[]int{7, 1, -1}, []int{0, 1, 1}, 0, 0, nil},
		{[]int{-1, 3, 13}, []int{1000, -29, 277}, 9, 17, []int{1000000, -300953, -236689}},
		{[]int{-7, -5, 7}, []int{29, -364, 309}, 13, 17, []int{17081, -999999, -845326}},
	} {
		if got, ok := impl.ConicAt(c.form, c.v, c.s, c.t); !slices.Equal(got, c.want) || ok != (c.want != nil) {
			t.Errorf("ConicAt(%v, %v, %d, %d) is %v, %t, not %v", c.form, c.v, c.s, c.t, got, ok, c.want)
		}
	}
}

func TestConicAtLimits(t *testing.T) {
	for _, c := range []struct{ form, v []int }{{[]int{1, 1, -1}, []int{1, 0, 1}}, {[]int{5, 1, -4}, []int{0, 2, 1}}, {[]int{1, 1, -2}, []int{1, -1, 1}}} {
		for _, x := range append(noDirectionComponents(), directionMax, -directionMax, directionMax-1, 0) {
			for _, y := range []int{0, 1, -3, directionMax, x} {
				expectAt(t, c.form, c.v, x, y)
				expectAt(t, c.form, c.v, y, x)
			}
		}
	}
}

// expectBack checks ConicBack for a point and a zero: the heading leads along the line through both or, for multiples, along the one that meets the zeros at the point alone, where the pair with the point is 0. Only one plain heading does so.
func expectBack(t *testing.T, form []int, v []int, z []int) {
	t.Helper()
	x, y := mustBack(t, form, v, z)
	if !slices.Equal(lowestOf([]int{x, y, 0}), []int{x, y, 0}) {
		t.Errorf("ConicBack(%v, %v, %v) is %d and %d, which is not plain", form, v, z, x, y)
	}
	w := directionOf(v, x, y)
	if isMultiple(z, v) {
		if valueOf(form, v, w) != 0 {
			t.Errorf("ConicBack(%v, %v, %v) is %d and %d", form, v, z, x, y)
		}
	} else if determinantOf(v, w, z) != 0 {
		t.Errorf("ConicBack(%v, %v, %v) is %d and %d", form, v, z, x, y)
	}
}

func TestConicBack(t *testing.T) {
	eachPoint(func(form []int, v []int) {
		zeros := append(smallZeros(form, 2), lineOf(form, v, directionOf(v, 3, 8)), lineOf(form, v, directionOf(v, -5, 17)), v)
		for _, z := range zeros {
			if heightOf(z) > zeroMax {
				continue
			}
			most := zeroMax / heightOf(z)
			for _, n := range []int{1, -1, most, -most} {
				expectBack(t, form, v, timesAll(z, n))
			}
			for _, n := range []int{0, most + 1, -most - 1} {
				if x, y, ok := impl.ConicBack(form, v, timesAll(z, n)); ok || x != 0 || y != 0 {
					t.Errorf("ConicBack(%v, %v, %v) is %d, %d, %t", form, v, timesAll(z, n), x, y, ok)
				}
			}
		}
	})
}

func TestConicBackOfSomeZeros(t *testing.T) {
	for _, c := range []struct {
		form, v, z []int
		s, t       int
		ok         bool
	}{
		{[]int{1, 1, -1}, []int{1, 0, 1}, []int{3, -4, -5}, 1, 2, true},
		{[]int{1, 1, -1}, []int{1, 0, 1}, []int{-3, 4, 5}, 1, 2, true},
		{[]int{1, 1, -1}, []int{1, 0, 1}, []int{30, -40, -50}, 1, 2, true},
		{[]int{1, 1, -1}, []int{1, 0, 1}, []int{1, 0, -1}, 0, 1, true},
		{[]int{1, 1, -1}, []int{1, 0, 1}, []int{0, 1, 1}, 1, 1, true},
		{[]int{1, 1, -1}, []int{1, 0, 1}, []int{0, -1, 1}, 1, -1, true},
		{[]int{1, 1, -1}, []int{1, 0, 1}, []int{600000, -800000, -1000000}, 1, 2, true},
		{[]int{1, 1, -1}, []int{1, 0, 1}, []int{600003, -800004, -1000005}, 0, 0, false},
		{[]int{1, 1, -1}, []int{1, 0, 1}, []int{-1000000, 0, 1000000}, 0, 1, true},
		{[]int{1, 1, -1}, []int{1, 0, 1}, []int{-1000001, 0, 1000001}, 0, 0, false},
		// The lines that meet the zeros at the point alone.
		{[]int{1, 1, -1}, []int{1, 0, 1}, []int{1, 0, 1}, 1, 0, true},
		{[]int{1, 1, -1}, []int{1, 0, 1}, []int{-1, 0, -1}, 1, 0, true},
		{[]int{1, 1, -1}, []int{1, 0, 1}, []int{1000000, 0, 1000000}, 1, 0, true},
		{[]int{1, 1, -1}, []int{1, 0, 1}, []int{1000001, 0, 1000001}, 0, 0, false},
		{[]int{1, -1, 1}, []int{1, 1, 0}, []int{1, 1, 0}, 0, 1, true},
		{[]int{1, -1, 1}, []int{1, -1, 0}, []int{-3, 3, 0}, 0, 1, true},
		{[]int{7, 1, -1}, []int{0, 1, 1}, []int{0, 1, 1}, 1, 0, true},
		{[]int{7, 1, -1}, []int{0, 1, 1}, []int{0, -5, -5}, 1, 0, true},
		{[]int{7, 1, -1}, []int{0, 1, -1}, []int{0, 1, -1}, 1, 0, true},
		{[]int{-7, 9, -4}, []int{0, 2, 3}, []int{0, 2, 3}, 1, 0, true},
		{[]int{1, 1, -1}, []int{3, 4, 5}, []int{3, 4, 5}, 5, 4, true},
		{[]int{1, 1, -1}, []int{3, -4, 5}, []int{-6, 8, -10}, 5, -4, true},
		{[]int{1, 1, -1}, []int{3, -4, -5}, []int{3, -4, -5}, 5, 4, true},
		{[]int{1, -1, 1}, []int{3, 5, 4}, []int{3, 5, 4}, 4, 5, true},
		{[]int{-1, 1, 1}, []int{5, 3, 4}, []int{5, 3, 4}, 4, -3, true},
		{[]int{2, 3, -5}, []int{1, 1, 1}, []int{1, 1, 1}, 5, 3, true},
		{[]int{2, 3, -5}, []int{1, 1, -1}, []int{1, 1, -1}, 5, -3, true},
		{[]int{30, -15, -15}, []int{1, 1, 1}, []int{1, 1, 1}, 1, -1, true}, // Its terms are divided by 15.
		{[]int{-1, 3, 13}, []int{1000, -29, 277}, []int{1000, -29, 277}, 3601, 87, true},
		{[]int{-1, 3, 13}, []int{1000, -29, 277}, []int{1000000, -300953, -236689}, 9, 17, true},
		{[]int{7, 1, -1}, []int{0, 1, 1}, []int{1, 3, 4}, 1, 1, true},
		{[]int{7, 1, -1}, []int{0, 1, 1}, []int{-1, 3, 4}, 1, -1, true},
		{[]int{7, 1, -1}, []int{0, 1, 1}, []int{0, 1, -1}, 0, 1, true},
		{[]int{1, 1, -1}, []int{1, 0, 1}, []int{3, 4, 6}, 0, 0, false},
		{[]int{1, 1, -1}, []int{1, 0, 1}, []int{0, 0, 0}, 0, 0, false},
		{[]int{1, 1, -1}, []int{1, 0, 1}, nil, 0, 0, false},
		{[]int{1, 1, -1}, []int{1, 0, 1}, []int{1, 0}, 0, 0, false},
		{[]int{1, 1, -1}, []int{1, 0, 1}, []int{1, 0, 1, 0}, 0, 0, false},
		{[]int{1, 1, -1}, []int{1, 0, 1}, []int{0, 1 << 32, 1 << 32}, 0, 0, false},
		{[]int{1, 1, -1}, []int{1, 0, 1}, []int{math.MinInt, 0, math.MinInt}, 0, 0, false},
		{[]int{1, 1, -1}, []int{1, 0, 1}, []int{math.MinInt, math.MinInt, math.MinInt}, 0, 0, false},
	} {
		if s, x, ok := impl.ConicBack(c.form, c.v, c.z); s != c.s || x != c.t || ok != c.ok {
			t.Errorf("ConicBack(%v, %v, %v) is %d, %d, %t, not %d, %d, %t", c.form, c.v, c.z, s, x, ok, c.s, c.t, c.ok)
		}
	}
}

func TestConicMany(t *testing.T) {
	all := map[int]int{}
	for n := 1; n <= metMax; n++ {
		all[n] = len(plainHeadings(n))
	}
	full, less, points := 0, 0, 0
	eachPoint(func(form []int, v []int) {
		points++
		if points%5 != 0 && heightOf(v) < 100 {
			return
		}
		for n := 1; n <= metMax; n++ {
			want := metBy(form, v, n)
			if got := impl.ConicMany(form, v, n); got != want {
				t.Errorf("ConicMany(%v, %v, %d) is %d, not %d", form, v, n, got, want)
			}
			if want == all[n] {
				full++
			} else {
				less++
			}
		}
	})
	if full == 0 || less == 0 {
		t.Errorf("ConicMany counts all headings %d times, and fewer %d times", full, less)
	}
	for n, want := range []int{-1, 4, 8, 16, 24, 40, -1} {
		if got := impl.ConicMany([]int{1, 1, -1}, []int{1, 0, 1}, n); got != want {
			t.Errorf("ConicMany of 1, 1 and -1 is %d for the size %d", got, n)
		}
	}
	for _, n := range append(noNumbers(), -1, -5, 7, 100, 256+1, 65536+5) {
		if got := impl.ConicMany([]int{1, 1, -1}, []int{1, 0, 1}, n); got != -1 {
			t.Errorf("ConicMany of 1, 1 and -1 is %d for the size %d", got, n)
		}
	}
}

func TestConicsKeepNothing(t *testing.T) {
	// The memory behind the lists belongs to the caller, too.
	memory := []int{1, 1, -1, 1, 0, 1, 0, 1, 0, 3, 4, 5, 9}
	kept := slices.Clone(memory)
	form, v, w, z := memory[:3], memory[3:6], memory[6:9], memory[9:12]
	results := func() [][]int {
		same, _ := impl.ConicOther(form, v, w)
		other, _ := impl.ConicOther(form, v, z)
		at, _ := impl.ConicAt(form, v, 1, 0)
		beside, _ := impl.ConicAt(form, v, 1, 2)
		return [][]int{same, other, at, beside}
	}
	want := [][]int{{1, 0, 1}, {3, 4, 5}, {1, 0, 1}, {3, -4, -5}}
	for range 2 {
		for i, result := range results() {
			if !slices.Equal(result, want[i]) {
				t.Errorf("result %d is %v, not %v", i, result, want[i])
			}
			clear(result[:cap(result)])
		}
		impl.ConicPoint(form, v)
		impl.ConicBack(form, v, z)
		impl.ConicBack(form, v, v)
		impl.ConicMany(form, v, 3)
		impl.ConicPoint(memory, memory[:5])
		if !slices.Equal(memory, kept) {
			t.Fatalf("the lists are %v, and were %v", memory, kept)
		}
	}
}
