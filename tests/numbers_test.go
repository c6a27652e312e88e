package tests

import (
	"math"
	"slices"
	"testing"

	"loop.example/localglobal/impl"
)

func TestNumberMax(t *testing.T) {
	if impl.NumberMax != numberMax {
		t.Errorf("NumberMax is %d", impl.NumberMax)
	}
}

func TestPrimeIs(t *testing.T) {
	table := primeTable(beyond)
	for n := -beyond; n <= beyond; n++ {
		want := n > 0 && n <= numberMax && table[n]
		if got := impl.PrimeIs(n); got != want {
			t.Errorf("PrimeIs(%d) is %t", n, got)
		}
	}
	for _, n := range noPrimes() {
		if impl.PrimeIs(n) {
			t.Errorf("PrimeIs(%d) holds", n)
		}
	}
}

func TestPrimesOf(t *testing.T) {
	primes := primesTo(2, numberMax)
	for n := range allNumbers() {
		want := []int{}
		for _, p := range primes {
			if n != 0 && divides(p, n) {
				want = append(want, p)
			}
		}
		if got := impl.PrimesOf(n); !slices.Equal(got, want) {
			t.Errorf("PrimesOf(%d) is %v, not %v", n, got, want)
		}
	}
	for _, n := range append(noNumbers(), 0, 1, -1) {
		if got := impl.PrimesOf(n); len(got) != 0 {
			t.Errorf("PrimesOf(%d) is %v", n, got)
		}
	}
}

func TestPrimesOfKeepsNothing(t *testing.T) {
	first := impl.PrimesOf(2310)
	second := impl.PrimesOf(2310)
	clear(first[:cap(first)])
	_ = append(first, 1, 1, 1)
	want := []int{2, 3, 5, 7, 11}
	if !slices.Equal(second, want) || !slices.Equal(impl.PrimesOf(2310), want) {
		t.Errorf("PrimesOf(2310) is %v behind a change of an earlier result", second)
	}
}

func TestValuationOf(t *testing.T) {
	for n := range allNumbers() {
		for _, p := range []int{2, 3, 5, 7, 11, 13, 61, 67, 71, 2503, 4999} {
			want := -1
			if n != 0 {
				want = 0
				for power := p; divides(power, n); power *= p {
					want++
				}
			}
			if got := impl.ValuationOf(n, p); got != want {
				t.Errorf("ValuationOf(%d, %d) is %d, not %d", n, p, got, want)
			}
		}
	}
}

func TestValuationOfInvalid(t *testing.T) {
	for _, n := range append(noNumbers(), 0) {
		for _, p := range []int{2, 3, 5, 4999} {
			if got := impl.ValuationOf(n, p); got != -1 {
				t.Errorf("ValuationOf(%d, %d) is %d", n, p, got)
			}
		}
	}
	for _, p := range noPrimes() {
		for _, n := range append(someNumbers(), 5001, -5001, math.MinInt) {
			if got := impl.ValuationOf(n, p); got != -1 {
				t.Errorf("ValuationOf(%d, %d) is %d", n, p, got)
			}
		}
	}
}

func TestCoreOf(t *testing.T) {
	for n := range allNumbers() {
		if n == 0 {
			continue
		}
		want := 1
		for root := 2; root*root <= sizeOf(n); root++ {
			if divides(root*root, n) {
				want = root
			}
		}
		core, root, ok := impl.CoreOf(n)
		if !ok || root != want || core != n/(want*want) {
			t.Errorf("CoreOf(%d) is %d, %d, %t", n, core, root, ok)
		}
	}
	for _, n := range append(noNumbers(), 0) {
		if core, root, ok := impl.CoreOf(n); ok || core != 0 || root != 0 {
			t.Errorf("CoreOf(%d) is %d, %d, %t", n, core, root, ok)
		}
	}
}

func TestSquareIs(t *testing.T) {
	squares := map[int]bool{}
	for x := 0; x*x <= numberMax; x++ {
		squares[x*x] = true
	}
	for n := -beyond; n <= beyond; n++ {
		if got := impl.SquareIs(n); got != squares[n] {
			t.Errorf("SquareIs(%d) is %t", n, got)
		}
	}
	for _, n := range noNumbers() {
		if impl.SquareIs(n) {
			t.Errorf("SquareIs(%d) holds", n)
		}
	}
}

func TestPowerMod(t *testing.T) {
	for _, n := range someNumbers() {
		for _, m := range []int{1, 2, 3, 4, 7, 12, 97, 1024, 4096, 4999, 5000} {
			want := 1 % m
			for e := 0; e <= 200; e++ {
				if got, ok := impl.PowerMod(n, e, m); !ok || got != want {
					t.Errorf("PowerMod(%d, %d, %d) is %d, %t, not %d", n, e, m, got, ok, want)
				}
				want = want * restOf(n, m) % m
			}
		}
	}
	for _, n := range []int{-5000, -3, -1, 0, 1, 2, 4999, 5000} {
		want := 1
		for e := 0; e <= numberMax; e++ {
			if got, ok := impl.PowerMod(n, e, 4999); !ok || got != want {
				t.Errorf("PowerMod(%d, %d, 4999) is %d, %t, not %d", n, e, got, ok, want)
			}
			want = want * restOf(n, 4999) % 4999
		}
	}
}

func TestPowerModInvalid(t *testing.T) {
	fails := func(n int, e int, m int) {
		if got, ok := impl.PowerMod(n, e, m); ok || got != 0 {
			t.Errorf("PowerMod(%d, %d, %d) is %d, %t", n, e, m, got, ok)
		}
	}
	for _, bad := range noNumbers() {
		fails(bad, 2, 7)
		fails(bad, 0, 7)
		fails(3, bad, 7)
		fails(3, 2, bad)
	}
	for _, bad := range []int{-1, -2, -5000} {
		fails(3, bad, 7)
		fails(3, bad, 1)
		fails(3, 2, bad)
	}
	fails(3, 2, 0)
	fails(3, 0, 0)
	fails(0, 0, 0)
}

func TestInverseMod(t *testing.T) {
	for m := 2; m <= 130; m++ {
		table := inverseTable(m)
		for n := range allNumbers() {
			checkInverse(t, n, m, table)
		}
	}
	for _, m := range []int{1024, 2310, 4999, 5000} {
		table := inverseTable(m)
		for _, n := range someNumbers() {
			checkInverse(t, n, m, table)
		}
	}
}

func checkInverse(t *testing.T, n int, m int, table []int) {
	t.Helper()
	want := table[restOf(n, m)]
	if got, ok := impl.InverseMod(n, m); ok != (want > 0) || got != want {
		t.Errorf("InverseMod(%d, %d) is %d, %t, not %d", n, m, got, ok, want)
	}
}

func TestInverseModInvalid(t *testing.T) {
	fails := func(n int, m int) {
		if got, ok := impl.InverseMod(n, m); ok || got != 0 {
			t.Errorf("InverseMod(%d, %d) is %d, %t", n, m, got, ok)
		}
	}
	for _, bad := range noNumbers() {
		fails(bad, 7)
		fails(bad, 2)
		fails(1, bad)
	}
	for _, n := range someNumbers() {
		for _, bad := range []int{1, 0, -1, -2, -7, -5000} {
			fails(n, bad)
		}
	}
}

func TestResidueIs(t *testing.T) {
	for _, p := range primesTo(3, numberMax) {
		roots := rootTable(p)
		for _, n := range append(someNumbers(), p-1, p, 1-p, -p) {
			if got, want := impl.ResidueIs(n, p), legendre(n, p, roots); got != want {
				t.Errorf("ResidueIs(%d, %d) is %d, not %d", n, p, got, want)
			}
		}
	}
	for _, p := range []int{3, 5, 7, 4993, 4999} {
		roots := rootTable(p)
		for n := range allNumbers() {
			if got, want := impl.ResidueIs(n, p), legendre(n, p, roots); got != want {
				t.Errorf("ResidueIs(%d, %d) is %d, not %d", n, p, got, want)
			}
		}
	}
}

func TestResidueIsInvalid(t *testing.T) {
	for _, n := range noNumbers() {
		for _, p := range []int{3, 5, 7, 4999} {
			if got := impl.ResidueIs(n, p); got != -2 {
				t.Errorf("ResidueIs(%d, %d) is %d", n, p, got)
			}
		}
	}
	for _, p := range noOddPrimes() {
		for _, n := range []int{-5001, -5000, -1, 0, 1, 2, 4, 5000, 5001} {
			if got := impl.ResidueIs(n, p); got != -2 {
				t.Errorf("ResidueIs(%d, %d) is %d", n, p, got)
			}
		}
	}
}

func TestJacobiOf(t *testing.T) {
	primes := primesTo(3, numberMax)
	roots := map[int][]int{}
	for _, p := range primes {
		roots[p] = rootTable(p)
	}
	for m := 1; m <= numberMax; m += 2 {
		for _, n := range someNumbers() {
			want := 1
			left := m
			for _, p := range primes {
				if p > left {
					break
				}
				for ; divides(p, left); left /= p {
					want *= legendre(n, p, roots[p])
				}
			}
			if got := impl.JacobiOf(n, m); got != want {
				t.Errorf("JacobiOf(%d, %d) is %d, not %d", n, m, got, want)
			}
		}
	}
}

func TestJacobiOfOne(t *testing.T) {
	for n := range allNumbers() {
		if got := impl.JacobiOf(n, 1); got != 1 {
			t.Errorf("JacobiOf(%d, 1) is %d", n, got)
		}
	}
}

func TestJacobiOfInvalid(t *testing.T) {
	for _, n := range noNumbers() {
		for _, m := range []int{1, 3, 9, 15, 4999} {
			if got := impl.JacobiOf(n, m); got != -2 {
				t.Errorf("JacobiOf(%d, %d) is %d", n, m, got)
			}
		}
	}
	for _, m := range append(noNumbers(), 0, 2, 4, 6, 30, 4998, 5000, -1, -2, -3, -9, -4999) {
		for _, n := range []int{-5001, -5000, -1, 0, 1, 2, 4, 5000, 5001} {
			if got := impl.JacobiOf(n, m); got != -2 {
				t.Errorf("JacobiOf(%d, %d) is %d", n, m, got)
			}
		}
	}
}

func TestRootMod(t *testing.T) {
	for m := 1; m <= 130; m++ {
		table := rootTable(m)
		for n := range allNumbers() {
			checkRoot(t, n, m, table)
		}
	}
	for _, m := range []int{169, 243, 256, 343, 625, 961, 1024, 2048, 2401, 2500, 4096, 4900, 4913, 4998, 4999, 5000} {
		table := rootTable(m)
		for n := -m; n <= m; n++ {
			checkRoot(t, n, m, table)
		}
	}
}

func checkRoot(t *testing.T, n int, m int, table []int) {
	t.Helper()
	want := table[restOf(n, m)]
	got, ok := impl.RootMod(n, m)
	if ok != (want >= 0) || got != max(want, 0) {
		t.Errorf("RootMod(%d, %d) is %d, %t, not %d", n, m, got, ok, want)
	}
}

func TestRootModInvalid(t *testing.T) {
	fails := func(n int, m int) {
		if got, ok := impl.RootMod(n, m); ok || got != 0 {
			t.Errorf("RootMod(%d, %d) is %d, %t", n, m, got, ok)
		}
	}
	for _, bad := range noNumbers() {
		fails(bad, 1)
		fails(bad, 7)
		fails(1, bad)
		fails(4, bad)
	}
	for _, n := range someNumbers() {
		for _, bad := range []int{0, -1, -2, -7, -5000} {
			fails(n, bad)
		}
	}
}

func TestNonResidue(t *testing.T) {
	for _, p := range primesTo(3, numberMax) {
		roots := rootTable(p)
		want := 2
		for roots[want] >= 0 {
			want++
		}
		if got, ok := impl.NonResidue(p); !ok || got != want {
			t.Errorf("NonResidue(%d) is %d, %t, not %d", p, got, ok, want)
		}
	}
	for _, p := range noOddPrimes() {
		if got, ok := impl.NonResidue(p); ok || got != 0 {
			t.Errorf("NonResidue(%d) is %d, %t", p, got, ok)
		}
	}
}

func TestGcdOf(t *testing.T) {
	for _, a := range someNumbers() {
		for _, b := range someNumbers() {
			want := max(sizeOf(a), sizeOf(b))
			for want > 0 && !(divides(want, a) && divides(want, b)) {
				want--
			}
			if got := impl.GcdOf(a, b); got != want {
				t.Errorf("GcdOf(%d, %d) is %d, not %d", a, b, got, want)
			}
		}
	}
	for _, bad := range noNumbers() {
		for _, n := range append(someNumbers(), bad, 5001) {
			if x, y := impl.GcdOf(bad, n), impl.GcdOf(n, bad); x != -1 || y != -1 {
				t.Errorf("GcdOf of %d and %d is %d, exchanged %d", bad, n, x, y)
			}
		}
	}
}
