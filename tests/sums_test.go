package tests

import (
	"slices"
	"testing"

	"loop.example/localglobal/impl"
)

func TestSumMax(t *testing.T) {
	if impl.SumMax != sumMax {
		t.Errorf("SumMax is %d", impl.SumMax)
	}
}

func TestTwoIs(t *testing.T) {
	for n, ways := range waysTable(2) {
		if got := impl.TwoIs(n); got != (ways > 0) {
			t.Errorf("TwoIs(%d) is %t", n, got)
		}
	}
}

func TestTwoIsByPrimes(t *testing.T) {
	for n, want := range map[int]bool{
		0: true, 1: true, 2: true, 4: true, 25: true, 50: true, 1024: true, 2000: true, 1999: false, 1998: false, 1997: true,
		// Primes that leave the rest 3 by 4, to odd and to even powers.
		3: false, 9: true, 27: false, 81: true, 243: false, 729: true, 7: false, 49: true, 343: false, 11: false, 121: true, 1331: false, 21: false, 77: false, 441: true, 1089: true, 43: false, 1849: true, 31: false, 961: true, 1922: true, 6: false, 18: true, 98: true, 147: false, 63: false, 1323: false, 1764: true, 1975: false, 405: true,
		5: true, 13: true, 65: true, 125: true, 1105: true, 15: false, 35: false,
	} {
		if got := impl.TwoIs(n); got != want {
			t.Errorf("TwoIs(%d) is %t", n, got)
		}
	}
}

func TestTwoFind(t *testing.T) {
	for n, lists := range sumLists(2) {
		x, y, ok := impl.TwoFind(n)
		want := []int{0, 0}
		if len(lists) > 0 {
			want = lists[0]
		}
		if ok != (len(lists) > 0) || x != want[0] || y != want[1] {
			t.Errorf("TwoFind(%d) is %d, %d, %t, not %v", n, x, y, ok, want)
		}
	}
	for n, want := range map[int][2]int{0: {0, 0}, 1: {0, 1}, 2: {1, 1}, 25: {0, 5}, 50: {1, 7}, 65: {1, 8}, 98: {7, 7}, 325: {1, 18}, 1105: {4, 33}, 1936: {0, 44}, 1989: {15, 42}, 2000: {8, 44}} {
		if got := mustTwo(t, n); got != want {
			t.Errorf("TwoFind(%d) is %v, not %v", n, got, want)
		}
	}
}

func TestTwoManyAndEach(t *testing.T) {
	for n, want := range waysTable(2) {
		if got := impl.TwoEach(n); got != want {
			t.Errorf("TwoEach(%d) is %d, not %d", n, got, want)
		}
		if n == 0 {
			want = -1
		}
		if got := impl.TwoMany(n); got != want {
			t.Errorf("TwoMany(%d) is %d, not %d", n, got, want)
		}
	}
	for n, want := range map[int]int{1: 4, 2: 4, 3: 0, 4: 4, 5: 8, 9: 4, 21: 0, 25: 12, 49: 4, 50: 12, 65: 16, 325: 24, 625: 20, 1105: 32, 1999: 0, 2000: 16} {
		if impl.TwoMany(n) != want || impl.TwoEach(n) != want {
			t.Errorf("TwoMany(%d) is %d, and TwoEach %d", n, impl.TwoMany(n), impl.TwoEach(n))
		}
	}
	if impl.TwoEach(0) != 1 || impl.TwoMany(0) != -1 {
		t.Errorf("TwoMany(0) is %d, and TwoEach(0) %d", impl.TwoMany(0), impl.TwoEach(0))
	}
}

func TestThreeIs(t *testing.T) {
	ways, table := waysTable(3), sevens()
	for n := range sumMax + 1 {
		if table[n] == (ways[n] > 0) {
			t.Fatalf("%d has %d ways of three squares", n, ways[n])
		}
		if got := impl.ThreeIs(n); got == table[n] {
			t.Errorf("ThreeIs(%d) is %t", n, got)
		}
	}
	for n, want := range map[int]bool{
		0: true, 1: true, 3: true, 4: true, 6: true, 8: true, 16: true, 2000: true, 1998: true,
		7: false, 15: false, 23: false, 1999: false, 1991: false, 28: false, 60: false, 1980: false, 112: false, 240: false, 1904: false, 448: false, 960: false, 1472: false, 1984: false, 1792: false,
		14: true, 30: true, 56: true, 24: true, 12: true, 48: true, 63: false, 252: false, 1008: false,
	} {
		if got := impl.ThreeIs(n); got != want {
			t.Errorf("ThreeIs(%d) is %t", n, got)
		}
	}
}

func TestThreeFind(t *testing.T) {
	several, one := 0, 0
	for n, lists := range sumLists(3) {
		got, ok := impl.ThreeFind(n)
		if ok != (len(lists) > 0) || ok && !slices.Equal(got, lists[0]) || !ok && len(got) != 0 {
			t.Errorf("ThreeFind(%d) is %v, %t, not the first of %v", n, got, ok, lists)
		}
		if len(lists) > 1 {
			several++
		} else if len(lists) == 1 {
			one++
		}
	}
	if several == 0 || one == 0 {
		t.Errorf("%d numbers have several sums, and %d just one", several, one)
	}
	for n, want := range map[int][]int{0: {0, 0, 0}, 1: {0, 0, 1}, 3: {1, 1, 1}, 14: {1, 2, 3}, 27: {1, 1, 5}, 41: {0, 4, 5}, 101: {0, 1, 10}, 163: {1, 9, 9}, 427: {9, 11, 15}, 1920: {8, 16, 40}, 1936: {0, 0, 44}, 1998: {1, 29, 34}, 2000: {0, 8, 44}} {
		if got, ok := impl.ThreeFind(n); !ok || !slices.Equal(got, want) {
			t.Errorf("ThreeFind(%d) is %v, %t, not %v", n, got, ok, want)
		}
	}
}

func TestFourMany(t *testing.T) {
	for n, want := range waysTable(4) {
		if n == 0 {
			want = -1
		}
		if got := impl.FourMany(n); got != want {
			t.Errorf("FourMany(%d) is %d, not %d", n, got, want)
		}
	}
	for n, want := range map[int]int{0: -1, 1: 8, 2: 24, 3: 32, 4: 24, 7: 64, 8: 24, 12: 96, 16: 24, 30: 576, 100: 744, 1024: 24, 1920: 576, 1999: 16000, 2000: 3744} {
		if got := impl.FourMany(n); got != want {
			t.Errorf("FourMany(%d) is %d, not %d", n, got, want)
		}
	}
}

func TestFourEach(t *testing.T) {
	table := waysTable(4)
	for n := range addedMax + 1 {
		if got := impl.FourEach(n); got != table[n] {
			t.Errorf("FourEach(%d) is %d, not %d", n, got, table[n])
		}
	}
	for n, want := range map[int]int{0: 1, 1: 8, 2: 24, 4: 24, 7: 64, 256: 24, 299: 2688, 300: 2976, 301: -1, 302: -1, 2000: -1, -1: -1} {
		if got := impl.FourEach(n); got != want {
			t.Errorf("FourEach(%d) is %d, not %d", n, got, want)
		}
	}
	for _, n := range noAdded() {
		if got := impl.FourEach(n); got != -1 {
			t.Errorf("FourEach(%d) is %d", n, got)
		}
	}
}

func TestFourFind(t *testing.T) {
	several, one := 0, 0
	for n, lists := range sumLists(4) {
		got, ok := impl.FourFind(n)
		if !ok || !slices.Equal(got, lists[0]) {
			t.Errorf("FourFind(%d) is %v, %t, not the first of %v", n, got, ok, lists)
		}
		if len(lists) > 1 {
			several++
		} else {
			one++
		}
	}
	if several == 0 || one != 22 {
		t.Errorf("%d numbers have several sums, and %d just one", several, one)
	}
	for n, want := range map[int][]int{0: {0, 0, 0, 0}, 1: {0, 0, 0, 1}, 7: {1, 1, 1, 2}, 15: {1, 1, 2, 3}, 23: {1, 2, 3, 3}, 28: {1, 1, 1, 5}, 96: {0, 4, 4, 8}, 112: {2, 2, 2, 10}, 1536: {0, 16, 16, 32}, 1792: {8, 8, 8, 40}, 1984: {4, 4, 4, 44}, 1999: {1, 1, 29, 34}, 2000: {0, 0, 8, 44}} {
		if got, ok := impl.FourFind(n); !ok || !slices.Equal(got, want) {
			t.Errorf("FourFind(%d) is %v, %t, not %v", n, got, ok, want)
		}
	}
}

// expectNoSums checks all functions for an integer of which no sums are asked.
func expectNoSums(t *testing.T, n int) {
	t.Helper()
	if impl.TwoIs(n) || impl.ThreeIs(n) {
		t.Errorf("TwoIs(%d) is %t, and ThreeIs %t", n, impl.TwoIs(n), impl.ThreeIs(n))
	}
	if x, y, ok := impl.TwoFind(n); ok || x != 0 || y != 0 {
		t.Errorf("TwoFind(%d) is %d, %d, %t", n, x, y, ok)
	}
	if list, ok := impl.ThreeFind(n); ok || len(list) != 0 {
		t.Errorf("ThreeFind(%d) is %v, %t", n, list, ok)
	}
	if list, ok := impl.FourFind(n); ok || len(list) != 0 {
		t.Errorf("FourFind(%d) is %v, %t", n, list, ok)
	}
	for i, got := range []int{impl.TwoMany(n), impl.TwoEach(n), impl.FourMany(n), impl.FourEach(n)} {
		if got != -1 {
			t.Errorf("count %d of %d is %d", i, n, got)
		}
	}
}

func TestNoSums(t *testing.T) {
	for _, n := range noSums() {
		expectNoSums(t, n)
	}
}

func TestQuatValid(t *testing.T) {
	for _, q := range append(someQuats(), fewQuats()...) {
		if !impl.QuatValid(q) {
			t.Errorf("QuatValid(%v) fails", q)
		}
	}
	for _, q := range noQuats() {
		if impl.QuatValid(q) {
			t.Errorf("QuatValid(%v) holds", q)
		}
	}
	for i := range 4 {
		for _, x := range []int{9998, 9999, quatMax, quatMax + 1, quatMax + 2} {
			for _, x := range []int{x, -x} {
				q := ones(4)
				q[i] = x
				if got := impl.QuatValid(q); got != isQuat(q) {
					t.Errorf("QuatValid(%v) is %t", q, got)
				}
			}
		}
	}
}

func TestQuatNorm(t *testing.T) {
	for _, q := range append(someQuats(), fewQuats()...) {
		if got := impl.QuatNorm(q); got != squaresOf(q) {
			t.Errorf("QuatNorm(%v) is %d", q, got)
		}
	}
	for _, c := range []struct {
		q    []int
		want int
	}{
		{[]int{0, 0, 0, 0}, 0}, {[]int{1, 2, 3, 4}, 30}, {[]int{-1, 2, -3, 4}, 30}, {[]int{2, 4, 6, 8}, 120}, {[]int{quatMax, 0, 0, 0}, 100000000}, {[]int{quatMax, -quatMax, quatMax, quatMax}, 400000000}, {[]int{0, 0, 0, quatMax + 1}, -1}, {[]int{1, 2, 3}, -1}, {nil, -1},
	} {
		if got := impl.QuatNorm(c.q); got != c.want {
			t.Errorf("QuatNorm(%v) is %d, not %d", c.q, got, c.want)
		}
	}
}

// expectProduct checks QuatMul for any two quaternions, and tells whether it succeeds.
func expectProduct(t *testing.T, p []int, q []int) bool {
	t.Helper()
	want := quatProduct(p, q)
	got, ok := impl.QuatMul(p, q)
	if ok != isQuat(want) || ok && !slices.Equal(got, want) || !ok && len(got) != 0 {
		t.Errorf("QuatMul(%v, %v) is %v, %t, not %v", p, q, got, ok, want)
	}
	return ok
}

func TestQuatMul(t *testing.T) {
	made, large := 0, 0
	for _, p := range someQuats() {
		for _, q := range someQuats() {
			if expectProduct(t, p, q) {
				made++
			} else {
				large++
			}
		}
	}
	if made == 0 || large == 0 {
		t.Errorf("%d products are in range, and %d are not", made, large)
	}
}

// TestQuatMulLimits takes products at each place and with each sign: 10000 is 100 times 100, and 10001 is 73 times 137.
func TestQuatMulLimits(t *testing.T) {
	for s := range 4 {
		for u := range 4 {
			for _, sign := range []int{1, -1} {
				if p, q := timesAll(unitOf(4, s), 100), timesAll(unitOf(4, u), 100*sign); !expectProduct(t, p, q) {
					t.Errorf("QuatMul(%v, %v) fails", p, q)
				}
				if p, q := timesAll(unitOf(4, s), 73), timesAll(unitOf(4, u), 137*sign); expectProduct(t, p, q) {
					t.Errorf("QuatMul(%v, %v) does not fail", p, q)
				}
			}
		}
	}
	for _, c := range []struct {
		p, q []int
		good bool
	}{
		{[]int{5000, 5000, 5000, 5000}, []int{1, 1, 1, 1}, true}, // Some sums on the way are 15000.
		{[]int{5001, 5000, 5000, 5000}, []int{1, 1, 1, 1}, false},
		{[]int{5000, 5000, 0, 0}, []int{1, -1, 0, 0}, true},
		{[]int{5001, 5000, 0, 0}, []int{1, -1, 0, 0}, false},
		{[]int{quatMax, quatMax, quatMax, quatMax}, []int{-1, 0, 0, 0}, true},
		{[]int{quatMax, quatMax, quatMax, quatMax}, []int{1, 1, 0, 0}, false},
		{[]int{quatMax, quatMax, quatMax, quatMax}, []int{quatMax, quatMax, quatMax, quatMax}, false},
		{[]int{quatMax, quatMax, quatMax, quatMax}, []int{0, 0, 0, 0}, true},
		{[]int{50, 50, 50, 50}, []int{50, -50, -50, -50}, true},
		{[]int{100, 0, 0, 1}, []int{100, 0, 0, -1}, false},
		{[]int{99, 14, 1, 1}, []int{99, -14, -1, -1}, true},
	} {
		if ok := expectProduct(t, c.p, c.q); ok != c.good {
			t.Errorf("QuatMul(%v, %v) is %t", c.p, c.q, ok)
		}
	}
}

func TestQuatMulOfSomeQuaternions(t *testing.T) {
	one, i, j, k := unitOf(4, 0), unitOf(4, 1), unitOf(4, 2), unitOf(4, 3)
	for _, c := range []struct{ p, q, want []int }{
		{one, one, one}, {one, i, i}, {j, one, j}, {i, i, opposites(one)}, {j, j, opposites(one)}, {k, k, opposites(one)},
		{i, j, k}, {j, k, i}, {k, i, j}, {j, i, opposites(k)}, {k, j, opposites(i)}, {i, k, opposites(j)},
		{[]int{1, 2, 3, 4}, []int{5, 6, 7, 8}, []int{-60, 12, 30, 24}},
		{[]int{5, 6, 7, 8}, []int{1, 2, 3, 4}, []int{-60, 20, 14, 32}},
		{[]int{2, 4, 6, 8}, []int{1, 0, -1, 0}, []int{8, 12, 4, 4}},
		{[]int{1, 1, 1, 1}, []int{1, -1, -1, -1}, []int{4, 0, 0, 0}},
		{[]int{0, 0, 0, 0}, []int{quatMax, 1, 2, 3}, []int{0, 0, 0, 0}},
	} {
		if got, ok := impl.QuatMul(c.p, c.q); !ok || !slices.Equal(got, c.want) {
			t.Errorf("QuatMul(%v, %v) is %v, %t, not %v", c.p, c.q, got, ok, c.want)
		}
	}
}

func TestQuatConj(t *testing.T) {
	for _, q := range append(someQuats(), fewQuats()...) {
		if got := mustConj(t, q); !slices.Equal(got, conjugateOf(q)) {
			t.Errorf("QuatConj(%v) is %v", q, got)
		}
	}
	if got := mustConj(t, []int{1, 2, -3, 4}); !slices.Equal(got, []int{1, -2, 3, -4}) {
		t.Errorf("QuatConj(1 2 -3 4) is %v", got)
	}
}

// expectTurn checks QuatTurn for any quaternion and vector, and tells whether it succeeds.
func expectTurn(t *testing.T, q []int, v []int) bool {
	t.Helper()
	want := turnOf(q, v)
	// The product of the last two has integers of the same sizes as that of the first two.
	good := isQuat(quatProduct(q, append([]int{0}, v...))) && within(want, 3, quatMax)
	got, ok := impl.QuatTurn(q, v)
	if ok != good || ok && !slices.Equal(got, want) || !ok && len(got) != 0 {
		t.Errorf("QuatTurn(%v, %v) is %v, %t, not %v, %t", q, v, got, ok, want, good)
	}
	return ok
}

func TestQuatTurn(t *testing.T) {
	turned, large := 0, 0
	for _, q := range append(someQuats(), fewQuats()...) {
		for _, v := range someTurned() {
			if expectTurn(t, q, v) {
				turned++
			} else {
				large++
			}
		}
	}
	if turned == 0 || large == 0 {
		t.Errorf("%d vectors are turned, and %d are not", turned, large)
	}
}

func TestQuatTurnOfSomeVectors(t *testing.T) {
	for _, c := range []struct{ q, v, want []int }{
		{[]int{1, 0, 0, 0}, []int{3, -4, 5}, []int{3, -4, 5}},
		{[]int{-1, 0, 0, 0}, []int{3, -4, 5}, []int{3, -4, 5}},
		{[]int{0, 1, 0, 0}, []int{3, -4, 5}, []int{3, 4, -5}},
		{[]int{0, 0, -1, 0}, []int{3, -4, 5}, []int{-3, -4, -5}},
		{[]int{1, 1, 0, 0}, []int{0, 1, 0}, []int{0, 0, 2}},
		{[]int{1, -1, 0, 0}, []int{0, 1, 0}, []int{0, 0, -2}},
		{[]int{1, 0, 1, 0}, []int{1, 0, 0}, []int{0, 0, -2}},
		{[]int{1, 0, 0, 1}, []int{1, 0, 0}, []int{0, 2, 0}},
		{[]int{1, 1, 1, 1}, []int{1, 2, 3}, []int{12, 4, 8}},
		{[]int{2, 2, 2, 2}, []int{1, 2, 3}, []int{48, 16, 32}}, // The factor 2 goes into all.
		{[]int{0, 0, 0, 0}, []int{1, 2, 3}, []int{0, 0, 0}},
		{[]int{quatMax, quatMax, quatMax, -quatMax}, []int{0, 0, 0}, []int{0, 0, 0}},
		{[]int{1, 0, 0, 0}, []int{turnMax, -turnMax, turnMax}, []int{turnMax, -turnMax, turnMax}},
		{[]int{3, 4, 0, 0}, []int{0, 100, 0}, []int{0, -700, 2400}},
	} {
		if got, ok := impl.QuatTurn(c.q, c.v); !ok || !slices.Equal(got, c.want) {
			t.Errorf("QuatTurn(%v, %v) is %v, %t, not %v", c.q, c.v, got, ok, c.want)
		}
	}
}

// TestQuatTurnLimits takes results at each place and with each sign: 10000 is 100 times the norm 100, and 10001 is 73 times the norm 137.
func TestQuatTurnLimits(t *testing.T) {
	for i := range 3 {
		for _, sign := range []int{1, -1} {
			at, beyond := timesAll(unitOf(3, i), 100*sign), timesAll(unitOf(3, i), 73*sign)
			first, second := []int{6, 0, 0, 0}, []int{4, 0, 0, 0}
			first[i+1], second[i+1] = 8, 11
			if !expectTurn(t, first, at) {
				t.Errorf("QuatTurn(%v, %v) fails", first, at)
			}
			if expectTurn(t, second, beyond) {
				t.Errorf("QuatTurn(%v, %v) does not fail", second, beyond)
			}
			// A quarter of a turn leads to another place.
			quarter := []int{0, 1, 1, 1}
			quarter[i+1] = 0
			for _, x := range []int{70, -50} {
				expectTurn(t, timesAll(quarter, x), timesAll(unitOf(3, i), sign))
				expectTurn(t, timesAll(quarter, x+1), timesAll(unitOf(3, i), 2*sign))
			}
		}
	}
	for _, q := range [][]int{{100, 0, 0, 0}, {0, 100, 0, 0}, {60, 0, 0, 80}, {50, 50, 50, 50}} {
		if !expectTurn(t, q, []int{1, 0, 0}) || expectTurn(t, q, []int{turnMax, 0, 0}) {
			t.Errorf("QuatTurn(%v) of 1 0 0 fails, or of 100 0 0 not", q)
		}
	}
}

// expectNoQuat checks all functions for a list that is no quaternion.
func expectNoQuat(t *testing.T, q []int) {
	t.Helper()
	if impl.QuatValid(q) || impl.QuatNorm(q) != -1 {
		t.Errorf("QuatValid(%v) is %t, and QuatNorm %d", q, impl.QuatValid(q), impl.QuatNorm(q))
	}
	for _, pair := range [][2][]int{{q, {1, 0, 0, 0}}, {{1, 0, 0, 0}, q}, {q, {0, 0, 0, 0}}, {{0, 0, 0, 0}, q}, {q, q}} {
		if got, ok := impl.QuatMul(pair[0], pair[1]); ok || len(got) != 0 {
			t.Errorf("QuatMul(%v, %v) is %v, %t", pair[0], pair[1], got, ok)
		}
	}
	if got, ok := impl.QuatConj(q); ok || len(got) != 0 {
		t.Errorf("QuatConj(%v) is %v, %t", q, got, ok)
	}
	for _, v := range [][]int{{0, 0, 0}, {1, 2, 3}, nil} {
		if got, ok := impl.QuatTurn(q, v); ok || len(got) != 0 {
			t.Errorf("QuatTurn(%v, %v) is %v, %t", q, v, got, ok)
		}
	}
}

func TestNoQuats(t *testing.T) {
	for _, q := range noQuats() {
		expectNoQuat(t, q)
	}
}

func TestNoTurned(t *testing.T) {
	for _, v := range noTurned() {
		for _, q := range [][]int{{1, 0, 0, 0}, {0, 0, 0, 0}, {1, -1, 0, 2}} {
			if got, ok := impl.QuatTurn(q, v); ok || len(got) != 0 {
				t.Errorf("QuatTurn(%v, %v) is %v, %t", q, v, got, ok)
			}
		}
	}
}

func TestSumsKeepNothing(t *testing.T) {
	// The memory behind the lists belongs to the caller, too.
	memory := []int{1, 2, 3, 4, 1, 0, 0, 0, 3, -4, 5, 9}
	kept := slices.Clone(memory)
	q, one, v := memory[:4], memory[4:8], memory[8:11]
	results := func() [][]int {
		three, _ := impl.ThreeFind(14)
		four, _ := impl.FourFind(7)
		first, _ := impl.QuatMul(q, one)
		second, _ := impl.QuatMul(one, q)
		conjugate, _ := impl.QuatConj(q)
		same, _ := impl.QuatConj(one)
		turned, _ := impl.QuatTurn(one, v)
		return [][]int{three, four, first, second, conjugate, same, turned}
	}
	want := [][]int{{1, 2, 3}, {1, 1, 1, 2}, {1, 2, 3, 4}, {1, 2, 3, 4}, {1, -2, -3, -4}, {1, 0, 0, 0}, {3, -4, 5}}
	for range 2 {
		got := results()
		for i, result := range got {
			if !slices.Equal(result, want[i]) {
				t.Errorf("result %d is %v, not %v", i, result, want[i])
			}
			clear(result[:cap(result)])
			_ = append(result, 1, 1, 1)
		}
		impl.QuatValid(q)
		impl.QuatNorm(q)
		impl.QuatTurn(q, v)
		impl.QuatMul(memory, q)
		impl.QuatMul(q, q)
		if !slices.Equal(memory, kept) {
			t.Fatalf("the lists are %v, and were %v", memory, kept)
		}
	}
}
