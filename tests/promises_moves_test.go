package tests

import (
	"slices"
	"testing"

	"loop.example/localglobal/impl"
)

// fewMoves are some moves of a form for the second one of two.
func fewMoves(form []int) []impl.Move {
	list := []impl.Move{}
	for i, m := range someMoves(form) {
		if i%5 == 1 {
			list = append(list, m)
		}
	}
	return list
}

// eachMovePair calls a function for many pairs of moves of one form.
func eachMovePair(use func(form []int, a impl.Move, b impl.Move)) {
	for _, form := range moveForms() {
		few := fewMoves(form)
		for i, a := range someMoves(form) {
			use(form, a, few[i%len(few)])
			use(form, few[(i+1)%len(few)], a)
		}
	}
	for _, c := range slices.Concat(farMoves(), zeroSplits(), noBacks()) {
		for _, m := range []impl.Move{stayTable(len(c.form)), c.move, mirrorTable(c.form, unitOf(len(c.form), 0))} {
			use(c.form, c.move, m)
			use(c.form, m, c.move)
		}
	}
}

func isDefinite(form []int) bool {
	return negativesOf(form) == 0 || negativesOf(form) == len(form)
}

func TestPromise69(t *testing.T) {
	led, failed := 0, 0
	signs := map[int]int{}
	eachMove(func(form []int, m impl.Move) {
		if !impl.MoveValid(form, m) {
			t.Fatalf("MoveValid(%v, %v) fails", form, m)
		}
		sign := impl.MoveSign(form, m)
		signs[sign]++
		if sign != 1 && sign != -1 {
			t.Errorf("MoveSign(%v, %v) is %d", form, m, sign)
		}
		back, ok := impl.MoveBack(form, m)
		if !ok {
			failed++
			if !noMove(back) || fits(backTable(m)) {
				t.Errorf("MoveBack(%v, %v) is %v, %t", form, m, back, ok)
			}
			return
		}
		led++
		for _, pair := range [][2]impl.Move{{m, back}, {back, m}} {
			if product, ok := impl.MoveMul(form, pair[0], pair[1]); !ok || !sameMoves(product, mustStay(t, form)) {
				t.Errorf("MoveMul(%v, %v, %v) is %v, %t", form, pair[0], pair[1], product, ok)
			}
		}
	})
	if led == 0 || failed == 0 || signs[1] == 0 || signs[-1] == 0 {
		t.Errorf("%d moves are led back, %d are not, and the signs are %v", led, failed, signs)
	}
	for _, c := range noMoves() {
		if impl.MoveValid(c.form, c.move) {
			t.Errorf("MoveValid(%v, %v) holds", c.form, c.move)
		}
	}
	for _, form := range noMovables() {
		if m := stayTable(len(form)); impl.MoveValid(form, m) {
			t.Errorf("MoveValid(%v, %v) holds", form, m)
		}
	}
}

func TestPromise70(t *testing.T) {
	mirrors := 0
	for _, form := range moveForms() {
		stay := mustStay(t, form)
		back, ok := impl.MoveBack(form, stay)
		if !impl.MoveValid(form, stay) || impl.MoveSign(form, stay) != 1 || !ok || !sameMoves(back, stay) {
			t.Errorf("MoveStay(%v) is %v, and MoveBack of it %v", form, stay, back)
		}
		for _, w := range mirrorVectors(len(form)) {
			mirror, ok := impl.MoveMirror(form, w)
			if !ok {
				continue
			}
			mirrors++
			for _, pair := range [][2]impl.Move{{stay, mirror}, {mirror, stay}} {
				if product, ok := impl.MoveMul(form, pair[0], pair[1]); !ok || !sameMoves(product, mirror) {
					t.Errorf("MoveMul(%v, %v, %v) is %v, %t", form, pair[0], pair[1], product, ok)
				}
			}
		}
	}
	if mirrors == 0 {
		t.Error("there are no mirrors")
	}
	for _, form := range noMovables() {
		if m, ok := impl.MoveStay(form); ok || !noMove(m) {
			t.Errorf("MoveStay(%v) is %v, %t", form, m, ok)
		}
	}
}

func TestPromise71(t *testing.T) {
	mirrors, zero, large := 0, 0, 0
	check := func(form []int, w []int) {
		m, ok := impl.MoveMirror(form, w)
		if !ok {
			if !noMove(m) {
				t.Errorf("MoveMirror(%v, %v) is %v, %t", form, w, m, ok)
			}
			if mustValue(t, form, w) == 0 {
				zero++
			} else if large++; fits(mirrorTable(form, w)) {
				t.Errorf("MoveMirror(%v, %v) fails", form, w)
			}
			return
		}
		mirrors++
		if !impl.MoveValid(form, m) || impl.MoveSign(form, m) != -1 {
			t.Errorf("MoveMirror(%v, %v) is %v, and MoveSign of it %d", form, w, m, impl.MoveSign(form, m))
		}
		if to, d := mustOn(t, form, m, w); d != 1 || !slices.Equal(to, opposites(w)) {
			t.Errorf("MoveMirror(%v, %v) takes it to %v, %d", form, w, to, d)
		}
		if twice, ok := impl.MoveMul(form, m, m); !ok || !sameMoves(twice, mustStay(t, form)) {
			t.Errorf("MoveMirror(%v, %v) done twice is %v, %t", form, w, twice, ok)
		}
		if other := mustMirror(t, form, opposites(w)); !sameMoves(other, m) {
			t.Errorf("MoveMirror(%v, %v) is %v, and of the opposite vector %v", form, w, m, other)
		}
	}
	for _, form := range moveForms() {
		for _, w := range mirrorVectors(len(form)) {
			check(form, w)
		}
		for _, w := range noMirrors(len(form)) {
			if m, ok := impl.MoveMirror(form, w); ok || !noMove(m) {
				t.Errorf("MoveMirror(%v, %v) is %v, %t", form, w, m, ok)
			}
		}
	}
	for _, w := range [][]int{{1000, 0, 0}, {1000, 1000, 1000}, {-1000, 1000, 0}, {0, 0, -1000}} {
		if !impl.MoveValid([]int{1, 1, 1}, mustMirror(t, []int{1, 1, 1}, w)) {
			t.Errorf("MoveMirror(1 1 1, %v) is no move", w)
		}
	}
	for _, c := range beyondMoves() {
		check(c.form, c.w)
	}
	if mirrors == 0 || zero == 0 || large == 0 {
		t.Errorf("there are %d mirrors; at %d vectors the value is 0, and %d mirrors are too large", mirrors, zero, large)
	}
	for _, form := range noMovables() {
		if m, ok := impl.MoveMirror(form, ones(len(form))); ok || !noMove(m) {
			t.Errorf("MoveMirror(%v) of ones is %v, %t", form, m, ok)
		}
	}
}

func TestPromise72(t *testing.T) {
	made, failed, inRange, beyond := 0, 0, 0, 0
	eachMovePair(func(form []int, a impl.Move, b impl.Move) {
		product, ok := impl.MoveMul(form, a, b)
		if !ok {
			failed++
			if !noMove(product) || fits(productTable(a, b)) {
				t.Errorf("MoveMul(%v, %v, %v) is %v, %t", form, a, b, product, ok)
			}
			return
		}
		made++
		if sign := impl.MoveSign(form, product); sign != impl.MoveSign(form, a)*impl.MoveSign(form, b) || sign == 0 {
			t.Errorf("MoveSign of %v, %v and their product for %v is %d, %d and %d", a, b, form, impl.MoveSign(form, a), impl.MoveSign(form, b), sign)
		}
		vectors := append(someVectors(len(form))[:4], timesAll(unitOf(len(form), len(form)-1), b.Den), []int{3, -4, 12}[:len(form)])
		for _, v := range vectors {
			if !within(v, len(form), vectorMax) {
				continue
			}
			first, d := mustOn(t, form, b, v)
			if !within(first, len(form), vectorMax) {
				beyond++
				continue
			}
			inRange++
			second, e := mustOn(t, form, a, first)
			both, f := mustOn(t, form, product, v)
			// In lowest terms, the denominator may be less than the product of both.
			if !slices.Equal(timesAll(both, d*e), timesAll(second, f)) {
				t.Errorf("for %v, %v takes %v to %v, %d, and %v this to %v, %d; but their product to %v, %d", form, b, v, first, d, a, second, e, both, f)
			}
		}
	})
	if made == 0 || failed == 0 || inRange == 0 || beyond == 0 {
		t.Errorf("%d products are moves, %d are none, %d vectors are in range, and %d are not", made, failed, inRange, beyond)
	}
	for _, c := range noMoves() {
		stay := mustStay(t, c.form)
		for _, pair := range [][2]impl.Move{{c.move, stay}, {stay, c.move}, {c.move, c.move}} {
			if product, ok := impl.MoveMul(c.form, pair[0], pair[1]); ok || !noMove(product) {
				t.Errorf("MoveMul(%v, %v, %v) is %v, %t", c.form, pair[0], pair[1], product, ok)
			}
		}
	}
	for _, form := range noMovables() {
		if product, ok := impl.MoveMul(form, stayTable(len(form)), stayTable(len(form))); ok || !noMove(product) {
			t.Errorf("MoveMul(%v) of the moves that stay is %v, %t", form, product, ok)
		}
	}
}

func TestPromise73(t *testing.T) {
	led, otherDen, failed := 0, 0, 0
	eachMove(func(form []int, m impl.Move) {
		back, ok := impl.MoveBack(form, m)
		if !ok {
			failed++
			if !noMove(back) || fits(backTable(m)) {
				t.Errorf("MoveBack(%v, %v) is %v, %t", form, m, back, ok)
			}
			return
		}
		led++
		if back.Den != m.Den {
			otherDen++
		}
		if again, ok := impl.MoveBack(form, back); !ok || !sameMoves(again, m) {
			t.Errorf("MoveBack(%v, %v) is %v, and MoveBack of it %v, %t", form, m, back, again, ok)
		}
		if !impl.MoveValid(form, back) || impl.MoveSign(form, back) != impl.MoveSign(form, m) {
			t.Errorf("MoveSign of %v and of MoveBack for %v is %d and %d", m, form, impl.MoveSign(form, m), impl.MoveSign(form, back))
		}
	})
	if led == 0 || otherDen == 0 || failed == 0 {
		t.Errorf("%d moves are led back, %d with another Den, and %d are not", led, otherDen, failed)
	}
	for _, c := range noMoves() {
		if back, ok := impl.MoveBack(c.form, c.move); ok || !noMove(back) {
			t.Errorf("MoveBack(%v, %v) is %v, %t", c.form, c.move, back, ok)
		}
	}
	for _, form := range noMovables() {
		if back, ok := impl.MoveBack(form, stayTable(len(form))); ok || !noMove(back) {
			t.Errorf("MoveBack(%v) of the move that stays is %v, %t", form, back, ok)
		}
	}
}

func TestPromise74(t *testing.T) {
	lower, whole := 0, 0
	eachMove(func(form []int, m impl.Move) {
		vectors := append(someVectors(len(form)), columnOf(backTable(m), 0))
		for _, v := range vectors {
			if !within(v, len(form), vectorMax) {
				if to, d, ok := impl.MoveOn(form, m, v); ok || len(to) != 0 || d != 0 {
					t.Errorf("MoveOn(%v, %v, %v) is %v, %d, %t", form, m, v, to, d, ok)
				}
				continue
			}
			to, d := mustOn(t, form, m, v)
			if valueOf(form, to, to) != mustValue(t, form, v)*d*d || divisorOf(append(slices.Clone(to), d)...) != 1 {
				t.Errorf("MoveOn(%v, %v, %v) is %v, %d", form, m, v, to, d)
			}
			if !slices.Equal(timesAll(to, m.Den), timesAll(imageOf(m, v), d)) {
				t.Errorf("MoveOn(%v, %v, %v) is %v, %d", form, m, v, to, d)
			}
			if 1 < d && d < m.Den {
				lower++
			} else if d < m.Den {
				whole++
			}
		}
		for _, v := range noMirrors(len(form)) {
			if within(v, len(form), vectorMax) {
				continue
			}
			if to, d, ok := impl.MoveOn(form, m, v); ok || len(to) != 0 || d != 0 {
				t.Errorf("MoveOn(%v, %v, %v) is %v, %d, %t", form, m, v, to, d, ok)
			}
		}
	})
	if lower == 0 || whole == 0 {
		t.Errorf("%d vectors are taken to lower terms, and %d to integers", lower, whole)
	}
	for _, c := range noMoves() {
		if to, d, ok := impl.MoveOn(c.form, c.move, ones(len(c.form))); ok || len(to) != 0 || d != 0 {
			t.Errorf("MoveOn(%v, %v) of ones is %v, %d, %t", c.form, c.move, to, d, ok)
		}
	}
	for _, form := range noMovables() {
		if to, d, ok := impl.MoveOn(form, stayTable(len(form)), ones(len(form))); ok || len(to) != 0 || d != 0 {
			t.Errorf("MoveOn(%v) of ones is %v, %d, %t", form, to, d, ok)
		}
	}
}

func TestPromise75(t *testing.T) {
	products, split, failed := 0, map[int]int{}, 0
	eachMove(func(form []int, m impl.Move) {
		sign := impl.MoveSign(form, m)
		if sign == 0 {
			t.Fatalf("MoveSign(%v, %v) is 0", form, m)
		}
		for _, w := range [][]int{unitOf(len(form), 0), {2, -1, 3}, {1, 1, 1}} {
			mirror, ok := impl.MoveMirror(form, w[:len(form)])
			if !ok {
				continue
			}
			product, ok := impl.MoveMul(form, m, mirror)
			if !ok {
				continue
			}
			products++
			if got := impl.MoveSign(form, product); got != -sign {
				t.Errorf("MoveSign(%v, %v) is %d, and of the product with a mirror %d", form, m, sign, got)
			}
		}
		list, ok := impl.MoveSplit(form, m)
		if !ok {
			failed++
			if len(list) != 0 {
				t.Errorf("MoveSplit(%v, %v) is %v, %t", form, m, list, ok)
			}
			return
		}
		split[sign]++
		if divides(2, len(list)) != (sign == 1) {
			t.Errorf("MoveSplit(%v, %v) is %v, and MoveSign %d", form, m, list, sign)
		}
	})
	if products == 0 || split[1] == 0 || split[-1] == 0 || failed == 0 {
		t.Errorf("there are %d products, the signs of what is split are %v, and %d fail", products, split, failed)
	}
	for _, c := range noMoves() {
		if sign := impl.MoveSign(c.form, c.move); sign != 0 {
			t.Errorf("MoveSign(%v, %v) is %d", c.form, c.move, sign)
		}
		if list, ok := impl.MoveSplit(c.form, c.move); ok || len(list) != 0 {
			t.Errorf("MoveSplit(%v, %v) is %v, %t", c.form, c.move, list, ok)
		}
	}
	for _, form := range noMovables() {
		if sign := impl.MoveSign(form, stayTable(len(form))); sign != 0 {
			t.Errorf("MoveSign(%v) of the move that stays is %d", form, sign)
		}
	}
}

func TestPromise76(t *testing.T) {
	made, compared, failed := map[int]int{}, 0, 0
	for _, form := range moveForms() {
		vectors := append(mirrorVectors(len(form))[:4], []int{1, 2, 0}[:len(form)], []int{3, -1, 1}[:len(form)])
		for i := range vectors {
			for n := range mirrorsMax + 2 {
				list := [][]int{}
				for k := range n {
					list = append(list, vectors[(i+k*(1+n%3))%len(vectors)])
				}
				m, ok := impl.MoveOf(form, list)
				if !ok {
					failed++
					if !noMove(m) {
						t.Errorf("MoveOf(%v, %v) is %v, %t", form, list, m, ok)
					}
					continue
				}
				made[n]++
				if !impl.MoveValid(form, m) || (impl.MoveSign(form, m) == 1) != divides(2, n) {
					t.Errorf("MoveOf(%v, %v) is %v, and MoveSign of it %d", form, list, m, impl.MoveSign(form, m))
				}
				// From the last mirror to the first one: the last vector comes to its opposite first.
				if n > 0 {
					less, fine := impl.MoveOf(form, list[:n-1])
					if product := productTable(less, mirrorTable(form, list[n-1])); !fine || !sameMoves(product, m) {
						t.Errorf("MoveOf(%v, %v) is %v, and without the last mirror %v, %t", form, list, m, less, fine)
					}
				}
				slices.Reverse(list)
				opposite, first := impl.MoveOf(form, list)
				back, second := impl.MoveBack(form, m)
				if !first || !second {
					continue
				}
				compared++
				if !sameMoves(opposite, back) {
					t.Errorf("MoveOf(%v, %v) is %v, and MoveBack of the opposite order %v", form, list, opposite, back)
				}
			}
		}
	}
	for n := range mirrorsMax + 2 {
		if (made[n] > 0) != (n <= mirrorsMax) {
			t.Errorf("there are %d moves of %d mirrors", made[n], n)
		}
	}
	if compared == 0 || failed == 0 {
		t.Errorf("%d moves are compared, and %d fail", compared, failed)
	}
	for _, form := range [][]int{{3}, {1, -1}, {2, 5, -7}} {
		for _, w := range noMirrors(len(form)) {
			if m, ok := impl.MoveOf(form, [][]int{unitOf(len(form), 0), w}); ok || !noMove(m) {
				t.Errorf("MoveOf(%v) of a unit and %v is %v, %t", form, w, m, ok)
			}
		}
	}
	for _, form := range noMovables() {
		for _, list := range [][][]int{nil, {ones(len(form))}} {
			if m, ok := impl.MoveOf(form, list); ok || !noMove(m) {
				t.Errorf("MoveOf(%v, %v) is %v, %t", form, list, m, ok)
			}
		}
	}
}

func TestPromise77(t *testing.T) {
	made, zero, stays := 0, 0, 0
	eachMove(func(form []int, m impl.Move) {
		list, ok := impl.MoveSplit(form, m)
		if !ok {
			if len(list) != 0 {
				t.Errorf("MoveSplit(%v, %v) is %v, %t", form, m, list, ok)
			}
			return
		}
		n := len(form)
		if len(list) > 2*n || isDefinite(form) && len(list) > n {
			t.Errorf("MoveSplit(%v, %v) is %v", form, m, list)
		}
		for _, w := range list {
			if len(w) != n || mustValue(t, form, w) == 0 || !slices.Equal(lowestOf(w), w) {
				t.Errorf("MoveSplit(%v, %v) is %v", form, m, list)
			}
		}
		if again, ok := impl.MoveOf(form, list); ok {
			made++
			if !sameMoves(again, m) {
				t.Errorf("MoveSplit(%v, %v) is %v, and MoveOf of it %v", form, m, list, again)
			}
		}
		// For the first place, nothing is noted exactly if it stays where it is.
		if e := timesAll(unitOf(n, 0), m.Den); slices.Equal(columnOf(m, 0), e) {
			stays++
			if slices.ContainsFunc(list, func(w []int) bool { return w[0] != 0 }) {
				t.Errorf("MoveSplit(%v, %v) is %v", form, m, list)
			}
		} else if difference := sumOf(columnOf(m, 0), opposites(e)); valueOf(form, difference, difference) == 0 {
			zero++
			if len(list) < 2 || !slices.Equal(list[1], unitOf(n, 0)) || isMultiple(difference, list[0]) {
				t.Errorf("MoveSplit(%v, %v) is %v", form, m, list)
			}
		} else if len(list) < 1 || !slices.Equal(list[0], lowestOf(difference)) {
			t.Errorf("MoveSplit(%v, %v) is %v", form, m, list)
		}
	})
	if made == 0 || zero < len(zeroSplits()) || stays == 0 {
		t.Errorf("%d moves are made again, %d differences have the value 0, and %d units stay", made, zero, stays)
	}
	for _, c := range noMoves() {
		if list, ok := impl.MoveSplit(c.form, c.move); ok || len(list) != 0 {
			t.Errorf("MoveSplit(%v, %v) is %v, %t", c.form, c.move, list, ok)
		}
	}
	for _, form := range noMovables() {
		if list, ok := impl.MoveSplit(form, oppositeTable(stayTable(len(form)))); ok || len(list) != 0 {
			t.Errorf("MoveSplit(%v) of the opposite of the move that stays is %v, %t", form, list, ok)
		}
	}
}

// expectCarried checks that mirrors, done from the first to the last one, take a vector to another one, as far as they are moves, and tells whether they are.
func expectCarried(t *testing.T, form []int, u []int, v []int, list [][]int) bool {
	t.Helper()
	to, d := u, 1
	for _, w := range list {
		if !slices.Equal(lowestOf(w), w) || mustValue(t, form, w) == 0 {
			t.Errorf("MoveCarry(%v, %v, %v) is %v", form, u, v, list)
		}
		mirror, ok := impl.MoveMirror(form, w)
		if !ok {
			return false
		}
		if to, d = mustOn(t, form, mirror, to); d != 1 {
			t.Errorf("MoveCarry(%v, %v, %v) is %v, which leads to %v, %d", form, u, v, list, to, d)
		}
	}
	if !slices.Equal(to, v) {
		t.Errorf("MoveCarry(%v, %v, %v) is %v, which leads to %v", form, u, v, list, to)
	}
	return true
}

func TestPromise78(t *testing.T) {
	lengths, noMirror, different := map[int]int{}, 0, 0
	check := func(form []int, u []int, v []int) {
		list, ok := impl.MoveCarry(form, u, v)
		n := len(form)
		value := valueOf(form, v, v)
		if good := within(u, n, carryMax) && within(v, n, carryMax) && value != 0 && valueOf(form, u, u) == value; ok != good || !ok && len(list) != 0 {
			t.Errorf("MoveCarry(%v, %v, %v) is %v, %t", form, u, v, list, ok)
		}
		if !ok {
			different++
			return
		}
		lengths[len(list)]++
		if len(list) > 2 || isDefinite(form) && len(list) > 1 || (len(list) == 0) != slices.Equal(u, v) {
			t.Errorf("MoveCarry(%v, %v, %v) is %v", form, u, v, list)
		}
		if !expectCarried(t, form, u, v, list) {
			noMirror++
		}
	}
	for _, form := range moveForms() {
		vectors := carriedVectors(len(form))
		for i, u := range vectors {
			for j, v := range vectors {
				if valueOf(form, u, u) == valueOf(form, v, v) || (i+j)%11 == 0 {
					check(form, u, v)
				}
			}
		}
	}
	// Vectors whose difference has the value 0, and others, up to the limit and just beyond it.
	for _, c := range []struct{ form, u, v []int }{
		{[]int{1, 1, -1}, []int{500, 500, 500}, []int{500, 0, 0}},
		{[]int{1, 1, -1}, []int{500, 501, 501}, []int{500, 0, 0}},
		{[]int{1, 1, -1}, []int{500, 499, 499}, []int{500, -1, -1}},
		{[]int{1, 1, -1}, []int{501, 1, 1}, []int{501, 0, 0}},
		{[]int{1, 1}, []int{500, 0}, []int{-300, 400}},
		{[]int{1, 1}, []int{501, 500}, []int{500, -501}},
		{[]int{2, -7}, []int{500, 499}, []int{-500, 499}},
		{[]int{2, -7}, []int{500, 499}, []int{500, 499}},
		{[]int{2, -7}, []int{501, 500}, []int{-501, 500}},
		{[]int{-3}, []int{500}, []int{-500}},
		{[]int{-3}, []int{501}, []int{-501}},
		{[]int{1, -1}, []int{500, 493}, []int{-86, 31}}, // 6951 and 6435
		{[]int{1, -1}, []int{484, 475}, []int{100, 37}}, // 8631 both
		{[]int{1, 1, 1}, []int{468, 176, 0}, []int{0, 0, 500}},
		{[]int{1, 1, 1}, []int{467, 171, 50}, []int{50, -467, 171}},
	} {
		check(c.form, c.u, c.v)
		check(c.form, c.v, c.u)
	}
	if lengths[0] == 0 || lengths[1] == 0 || lengths[2] == 0 || noMirror == 0 || different == 0 {
		t.Errorf("the lengths are %v, %d mirrors are no moves, and %d lists fail", lengths, noMirror, different)
	}
	for _, form := range [][]int{{3}, {1, -1}, {2, 5, -7}} {
		unit := unitOf(len(form), 0)
		for _, w := range noMirrors(len(form)) {
			for _, pair := range [][2][]int{{unit, w}, {w, unit}, {w, w}} {
				if list, ok := impl.MoveCarry(form, pair[0], pair[1]); ok || len(list) != 0 {
					t.Errorf("MoveCarry(%v, %v, %v) is %v, %t", form, pair[0], pair[1], list, ok)
				}
			}
		}
	}
	for _, form := range noMovables() {
		if list, ok := impl.MoveCarry(form, ones(len(form)), ones(len(form))); ok || len(list) != 0 {
			t.Errorf("MoveCarry(%v) of ones is %v, %t", form, list, ok)
		}
	}
}
