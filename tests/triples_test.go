package tests

import (
	"testing"

	"loop.example/localglobal/impl"
)

func TestTripleIs(t *testing.T) {
	for a := -2; a <= 130; a++ {
		for b := -2; b <= 130; b++ {
			for c := -1; c <= 186; c++ {
				if got := impl.TripleIs(a, b, c); got != isTriple([3]int{a, b, c}) {
					t.Errorf("TripleIs(%d, %d, %d) is %t", a, b, c, got)
				}
			}
		}
	}
}

func TestTripleIsOfTheTree(t *testing.T) {
	list := treeTriples()
	if len(list) != triplesInAll {
		t.Fatalf("the tree has %d triples", len(list))
	}
	for _, made := range list {
		a, b, c := made.triple[0], made.triple[1], made.triple[2]
		if !impl.TripleIs(a, b, c) {
			t.Errorf("TripleIs(%d, %d, %d) fails", a, b, c)
		}
		for _, no := range [][3]int{{b, a, c}, {a, c, b}, {a, b, c + 1}, {a, b, c - 1}, {a + 2, b, c}, {a, b - 2, c}, {2 * a, 2 * b, 2 * c}, {3 * a, 3 * b, 3 * c}, {-a, b, c}, {a, -b, c}, {a, b, -c}} {
			if impl.TripleIs(no[0], no[1], no[2]) != isTriple(no) {
				t.Errorf("TripleIs(%v) is %t", no, !isTriple(no))
			}
		}
	}
}

func TestTripleMake(t *testing.T) {
	made := 0
	for m := -5; m <= makeMax+20; m++ {
		for n := -5; n <= m+5; n++ {
			want := [3]int{m*m - n*n, 2 * m * n, m*m + n*n}
			is := 2 <= m && m <= makeMax && 1 <= n && n <= m-1 && isTriple(want)
			if is {
				made++
			} else {
				want = [3]int{}
			}
			if a, b, c, ok := impl.TripleMake(m, n); [3]int{a, b, c} != want || ok != is {
				t.Errorf("TripleMake(%d, %d) is %d, %d, %d, %t, not %v", m, n, a, b, c, ok, want)
			}
		}
	}
	if made != triplesInAll {
		t.Errorf("TripleMake makes %d triples", made)
	}
}

func TestTripleMakeLimits(t *testing.T) {
	for _, c := range []struct {
		m, n int
		want [3]int
	}{
		{2, 1, [3]int{3, 4, 5}}, {4, 1, [3]int{15, 8, 17}}, {316, 1, [3]int{99855, 632, 99857}}, {316, 11, [3]int{99735, 6952, 99977}}, {315, 26, [3]int{98549, 16380, 99901}}, {230, 217, [3]int{5811, 99820, 99989}}, {224, 223, [3]int{447, 99904, 99905}},
		{316, 13, [3]int{}}, {317, 2, [3]int{}}, {318, 1, [3]int{}}, {225, 224, [3]int{}}, {286, 135, [3]int{}}, {316, 315, [3]int{}},
		{3, 1, [3]int{}}, {5, 3, [3]int{}}, {6, 3, [3]int{}}, {4, 2, [3]int{}}, {9, 6, [3]int{}}, {2, 2, [3]int{}}, {1, 2, [3]int{}}, {2, 0, [3]int{}}, {1, 0, [3]int{}}, {2, -1, [3]int{}}, {-2, 1, [3]int{}}, {-2, -1, [3]int{}}, {0, 0, [3]int{}}, {2, 3, [3]int{}},
	} {
		is := c.want != [3]int{}
		if a, b, x, ok := impl.TripleMake(c.m, c.n); [3]int{a, b, x} != c.want || ok != is {
			t.Errorf("TripleMake(%d, %d) is %d, %d, %d, %t, not %v", c.m, c.n, a, b, x, ok, c.want)
		}
	}
	for _, x := range append(noNumbers(), 1<<31+2, 1<<32+4, 1<<62+2) {
		for _, y := range []int{1, 2, 316, x - 1, x + 1, x} {
			for _, c := range [][2]int{{x, y}, {y, x}} {
				if a, b, c, ok := impl.TripleMake(c[0], c[1]); ok || a != 0 || b != 0 || c != 0 {
					t.Errorf("TripleMake of %d and %d is %d, %d, %d, %t", x, y, a, b, c, ok)
				}
			}
		}
	}
}

func TestTripleBack(t *testing.T) {
	for m := 2; m <= makeMax; m++ {
		for n := 1; n < m; n++ {
			made := [3]int{m*m - n*n, 2 * m * n, m*m + n*n}
			x, y, ok := impl.TripleBack(made[0], made[1], made[2])
			if is := isTriple(made); ok != is || is && (x != m || y != n) || !is && (x != 0 || y != 0) {
				t.Errorf("TripleBack(%v) is %d, %d, %t, not %d and %d", made, x, y, ok, m, n)
			}
		}
	}
}

func TestTripleChild(t *testing.T) {
	for _, made := range treeTriples() {
		for k := -2; k <= 4; k++ {
			want := childOf(made.triple, k)
			is := 0 <= k && k <= 2 && isTriple(want)
			if !is {
				want = [3]int{}
			}
			if a, b, c, ok := impl.TripleChild(made.triple[0], made.triple[1], made.triple[2], k); [3]int{a, b, c} != want || ok != is {
				t.Errorf("TripleChild(%v, %d) is %d, %d, %d, %t, not %v", made.triple, k, a, b, c, ok, want)
			}
		}
	}
	for _, c := range []struct {
		from [3]int
		k    int
		want [3]int
	}{
		{[3]int{3, 4, 5}, 0, [3]int{5, 12, 13}}, {[3]int{3, 4, 5}, 1, [3]int{21, 20, 29}}, {[3]int{3, 4, 5}, 2, [3]int{15, 8, 17}}, {[3]int{15, 8, 17}, 0, [3]int{33, 56, 65}}, {[3]int{15, 8, 17}, 1, [3]int{65, 72, 97}}, {[3]int{15, 8, 17}, 2, [3]int{35, 12, 37}},
		{[3]int{445, 99012, 99013}, 0, [3]int{447, 99904, 99905}}, {[3]int{447, 99904, 99905}, 0, [3]int{}}, {[3]int{98595, 628, 98597}, 2, [3]int{99855, 632, 99857}}, {[3]int{99855, 632, 99857}, 2, [3]int{}}, {[3]int{5811, 99820, 99989}, 0, [3]int{}},
	} {
		a, b, x, ok := impl.TripleChild(c.from[0], c.from[1], c.from[2], c.k)
		if [3]int{a, b, x} != c.want || ok != (c.want != [3]int{}) {
			t.Errorf("TripleChild(%v, %d) is %d, %d, %d, %t, not %v", c.from, c.k, a, b, x, ok, c.want)
		}
	}
	for _, k := range append(noNumbers(), 3, -1, 4, 256, 65536) {
		if a, b, c, ok := impl.TripleChild(3, 4, 5, k); ok || a != 0 || b != 0 || c != 0 {
			t.Errorf("TripleChild(3, 4, 5, %d) is %d, %d, %d, %t", k, a, b, c, ok)
		}
	}
}

func TestTripleParentAndDepth(t *testing.T) {
	for _, made := range treeTriples() {
		a, b, c, k, ok := impl.TripleParent(made.triple[0], made.triple[1], made.triple[2])
		if [3]int{a, b, c} != made.parent || ok != (made.depth > 0) || ok && k != made.k || !ok && k != 0 {
			t.Errorf("TripleParent(%v) is %d, %d, %d, %d, %t, not %v and %d", made.triple, a, b, c, k, ok, made.parent, made.k)
		}
		if got := impl.TripleDepth(made.triple[0], made.triple[1], made.triple[2]); got != made.depth {
			t.Errorf("TripleDepth(%v) is %d, not %d", made.triple, got, made.depth)
		}
	}
	for triple, want := range map[[3]int]int{{3, 4, 5}: 0, {5, 12, 13}: 1, {21, 20, 29}: 1, {15, 8, 17}: 1, {7, 24, 25}: 2, {35, 12, 37}: 2, {447, 99904, 99905}: 222, {99855, 632, 99857}: 157} {
		if got := impl.TripleDepth(triple[0], triple[1], triple[2]); got != want {
			t.Errorf("TripleDepth(%v) is %d, not %d", triple, got, want)
		}
	}
}

// expectNoTriple checks all functions for integers that are no triple.
func expectNoTriple(t *testing.T, a int, b int, c int) {
	t.Helper()
	if impl.TripleIs(a, b, c) {
		t.Errorf("TripleIs(%d, %d, %d) holds", a, b, c)
	}
	if m, n, ok := impl.TripleBack(a, b, c); ok || m != 0 || n != 0 {
		t.Errorf("TripleBack(%d, %d, %d) is %d, %d, %t", a, b, c, m, n, ok)
	}
	for k := -1; k <= 3; k++ {
		if x, y, z, ok := impl.TripleChild(a, b, c, k); ok || x != 0 || y != 0 || z != 0 {
			t.Errorf("TripleChild(%d, %d, %d, %d) is %d, %d, %d, %t", a, b, c, k, x, y, z, ok)
		}
	}
	if x, y, z, k, ok := impl.TripleParent(a, b, c); ok || x != 0 || y != 0 || z != 0 || k != 0 {
		t.Errorf("TripleParent(%d, %d, %d) is %d, %d, %d, %d, %t", a, b, c, x, y, z, k, ok)
	}
	if got := impl.TripleDepth(a, b, c); got != -1 {
		t.Errorf("TripleDepth(%d, %d, %d) is %d", a, b, c, got)
	}
}

func TestNoTriples(t *testing.T) {
	for _, no := range noTriples() {
		if no[0] > 0 && no[0] < 1<<40 && isTriple(no) {
			t.Fatalf("%v is a triple", no)
		}
		expectNoTriple(t, no[0], no[1], no[2])
	}
}
