package tests

import (
	"math"
	"slices"
	"testing"

	"loop.example/localglobal/impl"
)

// The limits of the chapter on sums of squares.
const (
	sumMax   = 2000
	addedMax = 300
	quatMax  = 10000
	turnMax  = 100
)

// waysTable tells, for each number up to sumMax, how many lists of so many integers have squares that add up to it, by adding one more square to all lists.
func waysTable(count int) []int {
	table := make([]int, sumMax+1)
	table[0] = 1
	for range count {
		longer := make([]int, sumMax+1)
		for n, ways := range table {
			for x := -sumMax; x <= sumMax; x++ {
				if n+x*x <= sumMax {
					longer[n+x*x] += ways
				}
			}
		}
		table = longer
	}
	return table
}

func squaresOf(list []int) int {
	sum := 0
	for _, x := range list {
		sum += x * x
	}
	return sum
}

// sumLists lists, for each number up to sumMax, all lists of so many integers from 0 on, none less than the one ahead, whose squares add up to it: by the first integer, then by the second one and so on.
func sumLists(count int) [][][]int {
	lists := [][]int{{}}
	for range count {
		longer := [][]int{}
		for _, list := range lists {
			for x := 0; x*x <= sumMax; x++ {
				if next := append(slices.Clone(list), x); slices.IsSorted(next) {
					longer = append(longer, next)
				}
			}
		}
		lists = longer
	}
	table := make([][][]int, sumMax+1)
	for _, list := range lists {
		if n := squaresOf(list); n <= sumMax {
			table[n] = append(table[n], list)
		}
	}
	return table
}

// noSums are integers of which no sums of squares are asked, many of them squares or sums of two squares, or such ones if they were cut to fewer bits or negated.
func noSums() []int {
	list := append(noNumbers(), 2500, 4000, 4096, 5000, -5000, 1<<16+25, 1<<16+50, -1<<16+25, 1<<32+25, 1<<32+50, -1<<32+50, 1<<62, -1<<62, 1<<62+1)
	for n := 1; n <= 100; n++ {
		list = append(list, -n, sumMax+n, -sumMax-n, -sumMax+n)
	}
	return list
}

// noAdded are integers of which FourEach adds up no ways.
func noAdded() []int {
	list := noSums()
	for n := addedMax + 1; n <= sumMax; n++ {
		list = append(list, n)
	}
	return list
}

// sevens are the numbers up to sumMax that are 7 more than a multiple of 8, times a power of 4.
func sevens() map[int]bool {
	table := map[int]bool{}
	for power := 1; power <= sumMax; power *= 4 {
		for n := 7 * power; n <= sumMax; n += 8 * power {
			table[n] = true
		}
	}
	return table
}

// conjugateOf needs a list of four integers.
func conjugateOf(q []int) []int {
	return []int{q[0], -q[1], -q[2], -q[3]}
}

// quatProduct multiplies 1, i, j and k, each by each: of those at the places s and t, the product is the one at s XOR t, with a sign. It may be out of range.
func quatProduct(p []int, q []int) []int {
	signs := [4][4]int{{1, 1, 1, 1}, {1, -1, 1, -1}, {1, -1, -1, 1}, {1, 1, -1, -1}}
	product := make([]int, 4)
	for s, x := range p {
		for t, y := range q {
			product[s^t] += signs[s][t] * x * y
		}
	}
	return product
}

func isQuat(list []int) bool {
	return within(list, 4, quatMax)
}

func isTurned(v []int) bool {
	return within(v, 3, turnMax)
}

// turnOf tells where a quaternion turns a vector without any product of quaternions, by the axis u, which is the last three integers, and a, the first one: to (a a - u u) v + 2 (u v) u + 2 a times the vector that stands on u and v. It may be out of range.
func turnOf(q []int, v []int) []int {
	a, u := q[0], q[1:]
	across := []int{u[1]*v[2] - u[2]*v[1], u[2]*v[0] - u[0]*v[2], u[0]*v[1] - u[1]*v[0]}
	dot := valueOf(ones(3), u, v)
	return sumOf(timesAll(v, a*a-squaresOf(u)), sumOf(timesAll(u, 2*dot), timesAll(across, 2*a)))
}

// someQuats are small quaternions, great ones, and some with norms at quatMax and just beyond it.
func someQuats() [][]int {
	list := slices.Collect(listsOf(4, []int{-1, 0, 2}))
	for i := range 4 {
		for _, x := range []int{1, -3, 50, 73, 99, 100, -100, 101, 137, 5000, -5000, 5001, 9999, quatMax, -quatMax} {
			q := make([]int, 4)
			q[i] = x
			list = append(list, q)
			for j := range i {
				q := slices.Clone(q)
				q[j] = 1
				list = append(list, q)
			}
		}
	}
	return append(list,
		[]int{1, 2, 3, 4}, []int{-4, 3, -2, 1}, []int{5, -6, 7, -8}, []int{11, 4, 0, 0}, []int{0, 4, 0, -11}, []int{1, 1, 1, 1}, []int{-1, 1, -1, 1},
		// Their integers have a common factor.
		[]int{2, 4, 6, 8}, []int{6, -10, 14, 2}, []int{3, 6, 9, 12}, []int{15, 0, -25, 35}, []int{20, -30, 40, 0}, []int{0, 14, 0, 21},
		// The norm is 10000, 9999 and 10001.
		[]int{50, 50, 50, 50}, []int{-50, 50, -50, 50}, []int{60, 0, 80, 0}, []int{80, -36, 48, 0}, []int{99, 14, 1, 1}, []int{-1, 99, 14, 1}, []int{100, 0, 0, 1}, []int{0, -65, 76, 0}, []int{98, 19, 6, 0}, []int{6, 0, -19, 98},
		[]int{5000, 5000, 5000, 5000}, []int{5000, -5000, 5000, 5000}, []int{5000, 5001, 0, 0}, []int{3333, 3333, -3334, 3334}, []int{2500, 2500, -2500, 2501}, []int{7071, 0, 0, -7071}, []int{9999, 9998, -9997, 9996}, []int{quatMax, quatMax, quatMax, quatMax}, []int{-quatMax, quatMax, -quatMax, quatMax},
	)
}

// fewQuats are some quaternions for the second one of two.
func fewQuats() [][]int {
	return [][]int{
		{0, 0, 0, 0}, {1, 0, 0, 0}, {-1, 0, 0, 0}, {0, 1, 0, 0}, {0, 0, 1, 0}, {0, 0, 0, -1}, {1, 1, 1, 1}, {1, -1, 0, 2}, {2, 3, -5, 7}, {4, 6, 0, -8}, {0, 0, -3, 1}, {1, 0, 1, 0}, {100, 0, 0, 0}, {0, 100, 0, 0}, {0, 0, 0, 100}, {0, 137, 0, 0}, {0, 0, -137, 0}, {73, 0, 0, 0}, {0, 0, 0, 73}, {50, -50, 50, 50}, {-99, 14, 1, 1}, {5000, 0, 5000, 0}, {quatMax, 0, 0, 0}, {0, 0, -quatMax, 0}, {quatMax, quatMax, -quatMax, quatMax},
	}
}

// someTurned are vectors that are turned.
func someTurned() [][]int {
	return append(slices.Collect(listsOf(3, []int{-1, 0, 3})),
		[]int{turnMax, 0, 0}, []int{0, -turnMax, 0}, []int{0, 0, turnMax}, []int{turnMax, turnMax, turnMax}, []int{-turnMax, turnMax, -turnMax}, []int{73, 0, 0}, []int{0, -73, 0}, []int{0, 0, 73}, []int{99, 0, 0}, []int{12, -35, 84}, []int{7, 8, -9}, []int{50, 50, -50}, []int{-2, 4, 6},
	)
}

// noIntegers are integers that no quaternion has. Some squares and products of them would be in range if they were cut.
func noIntegers() []int {
	return []int{quatMax + 1, -quatMax - 1, quatMax + 2, 2 * quatMax, 1 << 16, 1<<16 + 1, -1<<16 - 1, 1 << 31, 1 << 32, -1 << 32, 1<<32 + 1, -1<<32 + 1, 1 << 62, math.MaxInt, math.MinInt, math.MinInt + 1}
}

// noQuats are lists that are no quaternions.
func noQuats() [][]int {
	list := [][]int{nil, {}, {1}, {1, 2}, {1, 2, 3}, {0, 0, 0}, {1, 2, 3, 4, 5}, {0, 0, 0, 0, 0}, {1, 2, 3, 4, quatMax + 1}, {quatMax + 1}, make([]int, 8), make([]int, 300)}
	for i := range 4 {
		for _, x := range noIntegers() {
			for _, q := range [][]int{{0, 0, 0, 0}, {1, -2, 3, 4}} {
				q[i] = x
				list = append(list, q)
			}
		}
	}
	return list
}

// noTurned are vectors that are not turned.
func noTurned() [][]int {
	list := [][]int{nil, {}, {1}, {1, 2}, {0, 0}, {0, 1, 2, 3}, {0, 0, 0, 0}, {1, 2, 3, turnMax + 1}, make([]int, 6), make([]int, 300)}
	for i := range 3 {
		for _, x := range append(noIntegers(), turnMax+1, -turnMax-1, turnMax+2, 200, 1000, quatMax, -quatMax, 256+1) {
			for _, v := range [][]int{{0, 0, 0}, {1, -2, 3}} {
				v[i] = x
				list = append(list, v)
			}
		}
	}
	return list
}

func mustTwo(t *testing.T, n int) [2]int {
	t.Helper()
	x, y, ok := impl.TwoFind(n)
	if !ok {
		t.Fatalf("TwoFind(%d) failed", n)
	}
	return [2]int{x, y}
}

func mustConj(t *testing.T, q []int) []int {
	t.Helper()
	conjugate, ok := impl.QuatConj(q)
	if !ok || len(conjugate) != 4 {
		t.Fatalf("QuatConj(%v) is %v, %t", q, conjugate, ok)
	}
	return conjugate
}
