package tests

import (
	"testing"

	"loop.example/localglobal/impl"
)

func TestPromise1(t *testing.T) {
	for n := range allNumbers() {
		if !impl.PrimeIs(n) {
			continue
		}
		if list := impl.PrimesOf(n); len(list) != 1 || list[0] != n {
			t.Errorf("PrimesOf(%d) is %v", n, list)
		}
		for less := 1; less < n && less <= 50; less++ {
			if gcd := impl.GcdOf(n, less); gcd != 1 {
				t.Errorf("GcdOf(%d, %d) is %d", n, less, gcd)
			}
			if x := mustPower(t, less, n-1, n); x != 1 {
				t.Errorf("PowerMod(%d, %d, %d) is %d", less, n-1, n, x)
			}
		}
	}
}

func TestPromise2(t *testing.T) {
	for n := range allNumbers() {
		primes := impl.PrimesOf(n)
		if len(primes) == 0 && sizeOf(n) > 1 {
			t.Errorf("PrimesOf(%d) is empty", n)
		}
		product, last := 1, 1
		for _, p := range primes {
			if p <= last || !impl.PrimeIs(p) {
				t.Errorf("PrimesOf(%d) is %v", n, primes)
			}
			last = p
			for range impl.ValuationOf(n, p) {
				product *= p
			}
		}
		if len(primes) > 0 && product != sizeOf(n) {
			t.Errorf("the primes of %d multiply to %d", n, product)
		}
	}
}

func TestPromise3(t *testing.T) {
	for n := range allNumbers() {
		for _, p := range []int{2, 3, 5, 7, 31, 73, 2503, 4999} {
			k := impl.ValuationOf(n, p)
			if (k == -1) != (n == 0) {
				t.Fatalf("ValuationOf(%d, %d) is %d", n, p, k)
			}
			if k == -1 {
				continue
			}
			if divides(p, n) != (k != 0) {
				t.Errorf("ValuationOf(%d, %d) is %d", n, p, k)
			}
			if more := impl.ValuationOf(n*p, p); isNumber(n*p) && more != k+1 {
				t.Errorf("ValuationOf(%d, %d) is %d, behind %d", n*p, p, more, k)
			}
			if twice := impl.ValuationOf(n*n, p); isNumber(n*n) && twice != 2*k {
				t.Errorf("ValuationOf(%d, %d) is %d, of the root %d", n*n, p, twice, k)
			}
		}
	}
}

func TestPromise4(t *testing.T) {
	for n := range allNumbers() {
		if n == 0 {
			continue
		}
		core, root := mustCore(t, n)
		if core*root*root != n || root < 1 {
			t.Errorf("CoreOf(%d) is %d and %d", n, core, root)
		}
		if again, one := mustCore(t, core); again != core || one != 1 {
			t.Errorf("CoreOf(%d), a core, is %d and %d", core, again, one)
		}
		if impl.SquareIs(n) != (core == 1) {
			t.Errorf("SquareIs(%d) is %t, the core %d", n, impl.SquareIs(n), core)
		}
	}
}

func TestPromise5(t *testing.T) {
	for x := 1; x*x <= numberMax; x++ {
		n := x * x
		if !impl.SquareIs(n) {
			t.Errorf("SquareIs(%d) fails", n)
		}
		for _, p := range impl.PrimesOf(n) {
			if k := impl.ValuationOf(n, p); k <= 0 || k%2 != 0 {
				t.Errorf("ValuationOf(%d, %d) is %d", n, p, k)
			}
			if impl.SquareIs(n * p) {
				t.Errorf("SquareIs(%d) holds", n*p)
			}
		}
		for m := 1; m <= numberMax; m++ {
			if _, ok := impl.RootMod(n, m); !ok {
				t.Errorf("RootMod(%d, %d) fails", n, m)
			}
		}
	}
	if !impl.SquareIs(0) || impl.SquareIs(-1) || impl.SquareIs(-4) {
		t.Errorf("SquareIs is %t, %t, %t for 0, -1 and -4", impl.SquareIs(0), impl.SquareIs(-1), impl.SquareIs(-4))
	}
}

func TestPromise6(t *testing.T) {
	for _, n := range someNumbers() {
		for _, m := range []int{1, 2, 9, 10, 101, 2048, 4999, 5000} {
			for _, e := range []int{0, 1, 2, 3, 4, 7, 8, 100, 1023, 1024, 4095, 4998, 4999} {
				x := mustPower(t, n, e, m)
				if x < 0 || x >= m {
					t.Errorf("PowerMod(%d, %d, %d) is %d", n, e, m, x)
				}
				if next := mustPower(t, n, e+1, m); next != restOf(x*n, m) {
					t.Errorf("PowerMod(%d, %d, %d) is %d, behind %d", n, e+1, m, next, x)
				}
			}
		}
	}
	if x := mustPower(t, 0, 0, 7); x != 1 {
		t.Errorf("PowerMod(0, 0, 7) is %d", x)
	}
	if x := mustPower(t, 0, 0, 1); x != 0 {
		t.Errorf("PowerMod(0, 0, 1) is %d", x)
	}
}

func TestPromise7(t *testing.T) {
	for m := 2; m <= numberMax; m++ {
		for _, n := range someNumbers() {
			x, ok := impl.InverseMod(n, m)
			if ok != (impl.GcdOf(n, m) == 1) {
				t.Errorf("InverseMod(%d, %d) is %d, %t", n, m, x, ok)
			}
			if !ok {
				continue
			}
			if x < 1 || x >= m || restOf(x*n, m) != 1 {
				t.Errorf("InverseMod(%d, %d) is %d", n, m, x)
			}
			if back, ok := impl.InverseMod(x, m); !ok || back != restOf(n, m) {
				t.Errorf("InverseMod(%d, %d) is %d, %t, of %d", x, m, back, ok, n)
			}
		}
	}
}

func TestPromise8(t *testing.T) {
	for _, p := range append(primesTo(3, 110), 4987, 4993, 4999) {
		for a := -80; a <= 80; a++ {
			r := impl.ResidueIs(a, p)
			if r < -1 || r > 1 {
				t.Fatalf("ResidueIs(%d, %d) is %d", a, p, r)
			}
			if x, ok := impl.RootMod(a, p); ok != (r != -1) {
				t.Errorf("ResidueIs(%d, %d) is %d, RootMod %d, %t", a, p, r, x, ok)
			}
			for x := 0; x*x*sizeOf(a) <= numberMax && x <= 70; x++ {
				if s := impl.ResidueIs(a*x*x, p); s != r && s != 0 {
					t.Errorf("ResidueIs(%d, %d) is %d, of the core %d", a*x*x, p, s, r)
				}
			}
			for b := -60; b <= 60; b++ {
				if s := impl.ResidueIs(a*b, p); s != r*impl.ResidueIs(b, p) {
					t.Errorf("ResidueIs(%d, %d) is %d, not the product for %d and %d", a*b, p, s, a, b)
				}
			}
		}
	}
}

func TestPromise9(t *testing.T) {
	odd := []int{4985, 4987, 4991, 4993, 4995, 4997, 4999}
	for n := 1; n <= 451; n += 2 {
		odd = append(odd, n)
	}
	for _, n := range odd {
		for _, m := range odd {
			x, y := impl.JacobiOf(n, m), impl.JacobiOf(m, n)
			if n%4 == 3 && m%4 == 3 {
				y = -y
			}
			if x < -1 || x > 1 || x != y {
				t.Errorf("JacobiOf(%d, %d) is %d, exchanged %d", n, m, x, impl.JacobiOf(m, n))
			}
			if (x == 0) != (impl.GcdOf(n, m) > 1) {
				t.Errorf("JacobiOf(%d, %d) is %d", n, m, x)
			}
		}
	}
}

func TestPromise10(t *testing.T) {
	for m := 1; m <= numberMax; m += 2 {
		if x := impl.JacobiOf(-1, m); x != 2-m%4 {
			t.Errorf("JacobiOf(-1, %d) is %d", m, x)
		}
		two := -1
		if m%8 == 1 || m%8 == 7 {
			two = 1
		}
		if x := impl.JacobiOf(2, m); x != two {
			t.Errorf("JacobiOf(2, %d) is %d", m, x)
		}
		for _, n := range someNumbers() {
			x := impl.JacobiOf(n, m)
			if y := impl.JacobiOf(n+m, m); isNumber(n+m) && y != x {
				t.Errorf("JacobiOf(%d, %d) is %d, of the number ahead %d", n+m, m, y, x)
			}
			for _, f := range []int{-5, -1, 0, 2, 3, 7, 70} {
				if y := impl.JacobiOf(f*n, m); isNumber(f*n) && y != x*impl.JacobiOf(f, m) {
					t.Errorf("JacobiOf(%d, %d) is %d, not the product for %d and %d", f*n, m, y, f, n)
				}
			}
		}
	}
}

func TestPromise11(t *testing.T) {
	for m := 1; m <= numberMax; m++ {
		for _, n := range []int{-5000, -4999, -28, -7, -4, -3, -2, -1, 0, 1, 2, 3, 4, 5, 9, 17, 64, 4900, 4999, 5000} {
			least := -1
			for x := 0; x < m && least < 0; x++ {
				if restOf(x*x-n, m) == 0 {
					least = x
				}
			}
			x, ok := impl.RootMod(n, m)
			if ok != (least >= 0) || ok && x != least || 2*x > m {
				t.Errorf("RootMod(%d, %d) is %d, %t, not %d", n, m, x, ok, least)
			}
		}
	}
}

func TestPromise12(t *testing.T) {
	for _, p := range primesTo(3, numberMax) {
		n, ok := impl.NonResidue(p)
		if !ok || n < 2 || !impl.PrimeIs(n) || impl.ResidueIs(n, p) != -1 {
			t.Errorf("NonResidue(%d) is %d, %t", p, n, ok)
		}
		for less := 1; less < n; less++ {
			if impl.ResidueIs(less, p) != 1 {
				t.Errorf("ResidueIs(%d, %d) is %d, and NonResidue %d", less, p, impl.ResidueIs(less, p), n)
			}
		}
	}
}

func TestPromise13(t *testing.T) {
	for _, a := range someNumbers() {
		for b := range allNumbers() {
			gcd := impl.GcdOf(a, b)
			if gcd < 0 || (gcd == 0) != (a == 0 && b == 0) {
				t.Fatalf("GcdOf(%d, %d) is %d", a, b, gcd)
			}
			if other := impl.GcdOf(b, a); other != gcd {
				t.Errorf("GcdOf(%d, %d) is %d, exchanged %d", a, b, gcd, other)
			}
			if sum := impl.GcdOf(a, a+b); isNumber(a+b) && sum != gcd {
				t.Errorf("GcdOf(%d, %d) is %d, with the sum %d", a, b, gcd, sum)
			}
			if gcd == 0 {
				continue
			}
			if !divides(gcd, a) || !divides(gcd, b) || impl.GcdOf(a/gcd, b/gcd) != 1 {
				t.Errorf("GcdOf(%d, %d) is %d", a, b, gcd)
			}
		}
	}
}
