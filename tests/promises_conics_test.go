package tests

import (
	"slices"
	"testing"

	"loop.example/localglobal/impl"
)

// someDirections are directions of points, some of them multiples of one, or beyond the limit.
func someDirections(v []int) [][]int {
	return [][]int{{0, 0, 1}, {0, 1, 0}, {1, 0, 0}, {1, 1, 1}, {-3, 2, 0}, {0, 5, -4}, {7, 0, 3}, {20, -19, 13}, {-20, 20, 20}, {2, 21, 1}, {0, 0, 0}, v, opposites(v), timesAll(v, 2)}
}

// someHeadings are plain headings and others, some of them beyond the limit.
func someHeadings() [][]int {
	return append(plainHeadings(2), []int{0, 0}, []int{0, -3}, []int{-1, 0}, []int{4, 6}, []int{-2, -5}, []int{20, 19}, []int{-20, 20}, []int{9, 17}, []int{21, 1}, []int{-1, -21})
}

func TestPromise59(t *testing.T) {
	inRange, beyond := 0, 0
	eachPoint(func(form []int, v []int) {
		if !impl.ConicPoint(form, v) || !impl.ZeroIs(form, v) || !slices.Equal(mustPlain(t, form, v), v) {
			t.Fatalf("ConicPoint(%v, %v) is %t, and ZeroIs %t", form, v, impl.ConicPoint(form, v), impl.ZeroIs(form, v))
		}
		x, y := mustBack(t, form, v, v)
		if !within([]int{x, y}, 2, directionMax) {
			beyond++
			return
		}
		inRange++
		if zero, ok := impl.ConicAt(form, v, x, y); !ok || !slices.Equal(zero, v) {
			t.Errorf("ConicBack(%v, %v, %v) is %d and %d, and ConicAt of them %v, %t", form, v, v, x, y, zero, ok)
		}
	})
	if inRange == 0 || beyond == 0 {
		t.Errorf("the lines that meet a point alone have %d headings in range, and %d beyond", inRange, beyond)
	}
	for _, form := range conicForms() {
		for _, v := range vectorsFor(3) {
			if impl.ConicPoint(form, v) && (!impl.ZeroIs(form, v) || !slices.Equal(mustPlain(t, form, v), v)) {
				t.Errorf("ConicPoint(%v, %v) holds", form, v)
			}
		}
	}
	for _, c := range noPoints() {
		if impl.ConicPoint(c.form, c.v) {
			t.Errorf("ConicPoint(%v, %v) holds", c.form, c.v)
		}
		if x, y, ok := impl.ConicBack(c.form, c.v, c.v); ok || x != 0 || y != 0 {
			t.Errorf("ConicBack(%v, %v, %v) is %d, %d, %t", c.form, c.v, c.v, x, y, ok)
		}
	}
}

func TestPromise60(t *testing.T) {
	once, alone, failed := 0, 0, 0
	eachPoint(func(form []int, v []int) {
		for _, w := range someDirections(v) {
			zero, ok := impl.ConicOther(form, v, w)
			if !ok {
				failed++
				if len(zero) != 0 || within(w, 3, directionMax) && !isMultiple(w, v) && heightOf(lineOf(form, v, w)) <= zeroMax {
					t.Errorf("ConicOther(%v, %v, %v) is %v, %t", form, v, w, zero, ok)
				}
				continue
			}
			if isMultiple(w, v) || !impl.ZeroIs(form, zero) || !slices.Equal(mustPlain(t, form, zero), zero) || determinantOf(v, w, zero) != 0 {
				t.Errorf("ConicOther(%v, %v, %v) is %v", form, v, w, zero)
			}
			// Where it is the point again, the line meets the zeros there alone, and nowhere else.
			if same := slices.Equal(zero, v); same != (mustPair(t, form, v, w) == 0) {
				t.Errorf("ConicOther(%v, %v, %v) is %v, and the pair %d", form, v, w, zero, mustPair(t, form, v, w))
			} else if same {
				alone++
			} else {
				once++
			}
			if opposite := mustOther(t, form, v, opposites(w)); !slices.Equal(opposite, zero) {
				t.Errorf("ConicOther(%v, %v, %v) is %v, and from the opposite direction %v", form, v, w, zero, opposite)
			}
		}
		for _, w := range [][]int{nil, {1}, {1, 2}, {1, 2, 3, 4}, {0, 0, directionMax + 1}, {-directionMax - 1, 0, 1}} {
			if zero, ok := impl.ConicOther(form, v, w); ok || len(zero) != 0 {
				t.Errorf("ConicOther(%v, %v, %v) is %v, %t", form, v, w, zero, ok)
			}
		}
	})
	if once == 0 || alone == 0 || failed == 0 {
		t.Errorf("%d lines meet another zero, %d the point alone, and %d fail", once, alone, failed)
	}
	for _, c := range noPoints() {
		if zero, ok := impl.ConicOther(c.form, c.v, []int{1, 2, 3}); ok || len(zero) != 0 {
			t.Errorf("ConicOther(%v, %v, 1 2 3) is %v, %t", c.form, c.v, zero, ok)
		}
	}
}

func TestPromise61(t *testing.T) {
	found, alone := 0, 0
	eachPoint(func(form []int, v []int) {
		for _, h := range someHeadings() {
			zero, ok := impl.ConicAt(form, v, h[0], h[1])
			if want := atOf(form, v, h[0], h[1]); ok != (want != nil) || !ok && len(zero) != 0 {
				t.Errorf("ConicAt(%v, %v, %d, %d) is %v, %t", form, v, h[0], h[1], zero, ok)
			}
			if !ok {
				continue
			}
			found++
			if slices.Equal(zero, v) {
				alone++
			}
			if x, y := mustBack(t, form, v, zero); !slices.Equal([]int{x, y}, plainOf(h)) {
				t.Errorf("ConicAt(%v, %v, %d, %d) is %v, and ConicBack of it %d and %d", form, v, h[0], h[1], zero, x, y)
			}
		}
	})
	if alone == 0 || found == alone {
		t.Errorf("%d lines meet a zero, %d of them the point alone", found, alone)
	}
	for _, c := range noPoints() {
		if zero, ok := impl.ConicAt(c.form, c.v, 1, 2); ok || len(zero) != 0 {
			t.Errorf("ConicAt(%v, %v, 1, 2) is %v, %t", c.form, c.v, zero, ok)
		}
	}
}

func TestPromise62(t *testing.T) {
	inRange, alone := 0, 0
	eachPoint(func(form []int, v []int) {
		for _, plain := range append(smallZeros(form, 2), v) {
			for _, z := range [][]int{plain, opposites(plain), timesAll(plain, 12), timesAll(plain, -zeroMax/heightOf(plain))} {
				x, y := mustBack(t, form, v, z)
				if !within([]int{x, y}, 2, directionMax) {
					continue
				}
				inRange++
				if isMultiple(z, v) {
					alone++
				}
				if zero, ok := impl.ConicAt(form, v, x, y); ok && !slices.Equal(zero, mustPlain(t, form, z)) || !ok && heightOf(plain) <= zeroMax {
					t.Errorf("ConicBack(%v, %v, %v) is %d and %d, and ConicAt of them %v, %t", form, v, z, x, y, zero, ok)
				}
			}
		}
		for _, z := range [][]int{nil, {0, 0, 0}, {1, 1}, timesAll(v, zeroMax+1), sumOf(v, []int{0, 0, 1}), append(slices.Clone(v), 0)} {
			if x, y, ok := impl.ConicBack(form, v, z); ok != impl.ZeroIs(form, z) || !ok && (x != 0 || y != 0) {
				t.Errorf("ConicBack(%v, %v, %v) is %d, %d, %t", form, v, z, x, y, ok)
			}
		}
	})
	if alone == 0 || inRange == alone {
		t.Errorf("%d headings are in range, %d of them those of lines that meet the point alone", inRange, alone)
	}
	for _, c := range noPoints() {
		if x, y, ok := impl.ConicBack(c.form, c.v, []int{1, 1, 0}); ok || x != 0 || y != 0 {
			t.Errorf("ConicBack(%v, %v, 1 1 0) is %d, %d, %t", c.form, c.v, x, y, ok)
		}
	}
}

func TestPromise63(t *testing.T) {
	headings := [][][]int{}
	for n := range metMax + 1 {
		headings = append(headings, plainHeadings(n))
	}
	points, fewer := 0, 0
	eachPoint(func(form []int, v []int) {
		points++
		if points%5 != 0 && heightOf(v) < 100 {
			return
		}
		last := 0
		for n := 1; n <= metMax; n++ {
			tooHigh := 0
			for _, h := range headings[n] {
				if heightOf(lineOf(form, v, directionOf(v, h[0], h[1]))) > zeroMax {
					tooHigh++
				}
			}
			many := impl.ConicMany(form, v, n)
			if many < last || many > len(headings[n]) || many != len(headings[n])-tooHigh {
				t.Errorf("ConicMany(%v, %v, %d) is %d, for the size 1 less %d; there are %d headings, of which %d zeros are too high", form, v, n, many, last, len(headings[n]), tooHigh)
			}
			if tooHigh > 0 {
				fewer++
			}
			last = many
		}
		for _, n := range []int{0, -1, metMax + 1} {
			if got := impl.ConicMany(form, v, n); got != -1 {
				t.Errorf("ConicMany(%v, %v, %d) is %d", form, v, n, got)
			}
		}
	})
	if fewer == 0 {
		t.Error("no zero is too high")
	}
	for _, c := range noPoints() {
		if got := impl.ConicMany(c.form, c.v, 1); got != -1 {
			t.Errorf("ConicMany(%v, %v, 1) is %d", c.form, c.v, got)
		}
	}
}

func mustTripleBack(t *testing.T, a int, b int, c int) (int, int) {
	t.Helper()
	m, n, ok := impl.TripleBack(a, b, c)
	if !ok {
		t.Fatalf("TripleBack(%d, %d, %d) failed", a, b, c)
	}
	return m, n
}

func TestPromise64(t *testing.T) {
	form, triples := []int{1, 1, -1}, 0
	check := func(a int, b int, c int) {
		if !impl.TripleIs(a, b, c) {
			return
		}
		triples++
		v := []int{a, b, c}
		if !impl.ZeroIs(form, v) || !slices.Equal(mustPlain(t, form, v), v) || divides(2, c) || divides(2, a) {
			t.Errorf("TripleIs(%d, %d, %d) holds", a, b, c)
		}
		mustTripleBack(t, a, b, c)
	}
	for c := -1; c <= 150; c++ {
		for a := -1; a <= 150; a++ {
			for b := -1; b <= 150; b++ {
				check(a, b, c)
			}
		}
	}
	if triples != 24 { // those of which c is at most 149
		t.Errorf("TripleIs holds for %d small triples", triples)
	}
	for _, made := range treeTriples() {
		check(made.triple[0], made.triple[1], made.triple[2])
	}
	if triples != triplesInAll+24 {
		t.Errorf("TripleIs holds for %d triples of the tree", triples-24)
	}
	for _, no := range noTriples() {
		if impl.TripleIs(no[0], no[1], no[2]) {
			t.Errorf("TripleIs(%v) holds", no)
		}
	}
}

func TestPromise65(t *testing.T) {
	made, children := 0, 0
	for m := -1; m <= makeMax+5; m++ {
		for n := -1; n <= m+1; n++ {
			a, b, c, ok := impl.TripleMake(m, n)
			good := 1 <= n && n < m && m <= makeMax && divisorOf(m, n) == 1 && !divides(2, m+n) && m*m+n*n <= tripleMax
			if ok != good || !ok && (a != 0 || b != 0 || c != 0) {
				t.Errorf("TripleMake(%d, %d) is %d, %d, %d, %t", m, n, a, b, c, ok)
			}
			if !ok {
				continue
			}
			made++
			x, y := mustTripleBack(t, a, b, c)
			if x != m || y != n || divides(2, x) == divides(2, y) || impl.GcdOf(x, y) != 1 {
				t.Errorf("TripleMake(%d, %d) is %d, %d, %d, and TripleBack of it %d and %d", m, n, a, b, c, x, y)
			}
			different := map[[3]int]bool{}
			for k := range 3 {
				if d, e, f, ok := impl.TripleChild(a, b, c, k); ok {
					children++
					if different[[3]int{d, e, f}] || f <= c || !impl.TripleIs(d, e, f) {
						t.Errorf("TripleChild(%d, %d, %d, %d) is %d, %d, %d", a, b, c, k, d, e, f)
					}
					different[[3]int{d, e, f}] = true
				}
			}
		}
	}
	// Each triple but the first one is the child of one.
	if made != triplesInAll || children != triplesInAll-1 {
		t.Errorf("TripleMake makes %d triples, and these have %d children", made, children)
	}
}

func TestPromise66(t *testing.T) {
	made := 0
	for _, from := range treeTriples() {
		a, b, c := from.triple[0], from.triple[1], from.triple[2]
		for k := -1; k <= 3; k++ {
			d, e, f, ok := impl.TripleChild(a, b, c, k)
			if !ok {
				if d != 0 || e != 0 || f != 0 || 0 <= k && k <= 2 && childOf(from.triple, k)[2] <= tripleMax {
					t.Errorf("TripleChild(%v, %d) is %d, %d, %d, %t", from.triple, k, d, e, f, ok)
				}
				continue
			}
			made++
			if x, y, z, back, ok := impl.TripleParent(d, e, f); !ok || [3]int{x, y, z} != from.triple || back != k {
				t.Errorf("TripleChild(%v, %d) is %d, %d, %d, and TripleParent of it %d, %d, %d, %d, %t", from.triple, k, d, e, f, x, y, z, back, ok)
			}
			if impl.TripleDepth(d, e, f) != impl.TripleDepth(a, b, c)+1 {
				t.Errorf("TripleDepth(%v) is %d, and of the child %d %d", from.triple, impl.TripleDepth(a, b, c), k, impl.TripleDepth(d, e, f))
			}
		}
	}
	if made != triplesInAll-1 {
		t.Errorf("there are %d children", made)
	}
	for _, no := range noTriples() {
		if a, b, c, ok := impl.TripleChild(no[0], no[1], no[2], 1); ok || a != 0 || b != 0 || c != 0 {
			t.Errorf("TripleChild(%v, 1) is %d, %d, %d, %t", no, a, b, c, ok)
		}
	}
}

func TestPromise67(t *testing.T) {
	for _, made := range treeTriples() {
		a, b, c, k, ok := impl.TripleParent(made.triple[0], made.triple[1], made.triple[2])
		if ok == (made.triple == [3]int{3, 4, 5}) || !ok && (a != 0 || b != 0 || c != 0 || k != 0) {
			t.Errorf("TripleParent(%v) is %d, %d, %d, %d, %t", made.triple, a, b, c, k, ok)
		}
		if !ok {
			continue
		}
		if x, y, z, ok := impl.TripleChild(a, b, c, k); !ok || [3]int{x, y, z} != made.triple {
			t.Errorf("TripleParent(%v) is %d, %d, %d, %d, and TripleChild of it %d, %d, %d, %t", made.triple, a, b, c, k, x, y, z, ok)
		}
	}
	for _, no := range noTriples() {
		if a, b, c, k, ok := impl.TripleParent(no[0], no[1], no[2]); ok || a != 0 || b != 0 || c != 0 || k != 0 {
			t.Errorf("TripleParent(%v) is %d, %d, %d, %d, %t", no, a, b, c, k, ok)
		}
	}
}

func TestPromise68(t *testing.T) {
	for _, made := range treeTriples() {
		a, b, c := made.triple[0], made.triple[1], made.triple[2]
		depth := impl.TripleDepth(a, b, c)
		for range depth {
			a, b, c, _, _ = impl.TripleParent(a, b, c)
		}
		if depth < 0 || [3]int{a, b, c} != [3]int{3, 4, 5} || (depth == 0) != (made.triple == [3]int{3, 4, 5}) {
			t.Errorf("TripleDepth(%v) is %d, and so many parents lead to %d, %d, %d", made.triple, depth, a, b, c)
		}
	}
	for _, no := range noTriples() {
		if got := impl.TripleDepth(no[0], no[1], no[2]); got != -1 {
			t.Errorf("TripleDepth(%v) is %d", no, got)
		}
	}
}
