package tests

import (
	"math"
	"slices"
	"testing"

	"loop.example/localglobal/impl"
)

func TestMoveLimits(t *testing.T) {
	if impl.DenMax != denMax {
		t.Errorf("DenMax is %d", impl.DenMax)
	}
}

// expectNoMove checks all functions for a form and a table that is no move of it.
func expectNoMove(t *testing.T, form []int, m impl.Move) {
	t.Helper()
	if impl.MoveValid(form, m) {
		t.Errorf("MoveValid(%v, %v) holds", form, m)
	}
	stay, _ := impl.MoveStay(form)
	for _, pair := range [][2]impl.Move{{m, stay}, {stay, m}, {m, m}} {
		if got, ok := impl.MoveMul(form, pair[0], pair[1]); ok || !noMove(got) {
			t.Errorf("MoveMul(%v, %v, %v) is %v, %t", form, pair[0], pair[1], got, ok)
		}
	}
	if got, ok := impl.MoveBack(form, m); ok || !noMove(got) {
		t.Errorf("MoveBack(%v, %v) is %v, %t", form, m, got, ok)
	}
	for _, v := range [][]int{ones(len(form)), make([]int, len(form)), nil} {
		if to, d, ok := impl.MoveOn(form, m, v); ok || len(to) != 0 || d != 0 {
			t.Errorf("MoveOn(%v, %v, %v) is %v, %d, %t", form, m, v, to, d, ok)
		}
	}
	if got := impl.MoveSign(form, m); got != 0 {
		t.Errorf("MoveSign(%v, %v) is %d", form, m, got)
	}
	if list, ok := impl.MoveSplit(form, m); ok || len(list) != 0 {
		t.Errorf("MoveSplit(%v, %v) is %v, %t", form, m, list, ok)
	}
}

func TestMovesOfNoTables(t *testing.T) {
	for _, c := range noMoves() {
		if isMove(c.form, c.move) {
			t.Fatalf("%v is a move of %v", c.move, c.form)
		}
		expectNoMove(t, c.form, c.move)
	}
}

func TestMovesWithoutForms(t *testing.T) {
	for _, form := range noMovables() {
		n := len(form)
		if m, ok := impl.MoveStay(form); ok || !noMove(m) {
			t.Errorf("MoveStay(%v) is %v, %t", form, m, ok)
		}
		for _, w := range [][]int{ones(n), append([]int{1}, make([]int, n)...)[:n], nil} {
			if m, ok := impl.MoveMirror(form, w); ok || !noMove(m) {
				t.Errorf("MoveMirror(%v, %v) is %v, %t", form, w, m, ok)
			}
			for _, list := range [][][]int{nil, {}, {w}, {w, w}} {
				if m, ok := impl.MoveOf(form, list); ok || !noMove(m) {
					t.Errorf("MoveOf(%v, %v) is %v, %t", form, list, m, ok)
				}
			}
			for _, v := range [][]int{w, opposites(w)} {
				if list, ok := impl.MoveCarry(form, w, v); ok || len(list) != 0 {
					t.Errorf("MoveCarry(%v, %v, %v) is %v, %t", form, w, v, list, ok)
				}
			}
		}
		expectNoMove(t, form, stayTable(n))
		expectNoMove(t, form, oppositeTable(stayTable(n)))
	}
}

func TestMoveValid(t *testing.T) {
	forms := map[int]int{}
	eachMove(func(form []int, m impl.Move) {
		if !isMove(form, m) {
			t.Fatalf("%v is no move of %v", m, form)
		}
		if !impl.MoveValid(form, m) {
			t.Errorf("MoveValid(%v, %v) fails", form, m)
		}
		forms[len(form)]++
		// A move of one form is seldom one of another.
		for _, other := range [][]int{reversed(form), append(slices.Clone(form[1:]), form[0]), opposites(form), append([]int{-form[0]}, form[1:]...), append(slices.Clone(form), 1), form[1:]} {
			if got := impl.MoveValid(other, m); got != isMove(other, m) {
				t.Errorf("MoveValid(%v, %v) is %t", other, m, got)
			}
		}
	})
	if forms[1] == 0 || forms[2] == 0 || forms[3] == 0 {
		t.Errorf("the numbers of moves by the terms are %v", forms)
	}
}

func TestMoveValidOfSmallTables(t *testing.T) {
	moves := 0
	check := func(form []int, entries []int, den int) {
		m := impl.Move{Den: den}
		for row := range slices.Chunk(entries, len(form)) {
			m.Rows = append(m.Rows, row)
		}
		want := isMove(form, m)
		if got := impl.MoveValid(form, m); got != want {
			t.Errorf("MoveValid(%v, %v) is %t", form, m, got)
		}
		if want {
			moves++
		}
	}
	for _, form := range [][]int{{1}, {-5}, {1, 1}, {1, -1}, {-2, -2}, {3, 1}, {3, -1}, {4, 1}, {8, -2}} {
		for entries := range listsOf(len(form)*len(form), sizesTo(5)) {
			for den := -2; den <= 5; den++ {
				check(form, entries, den)
			}
		}
	}
	for _, form := range [][]int{{1, 1, 1}, {2, 1, 2}, {1, 1, -1}, {-3, 2, 1}} {
		for entries := range listsOf(9, sizesTo(1)) {
			check(form, entries, 1)
		}
		for entries := range listsOf(9, []int{-1, 1, 2}) {
			check(form, entries, 3)
		}
	}
	if moves < 200 {
		t.Errorf("only %d small tables are moves", moves)
	}
}

func TestMovesAtTheLimits(t *testing.T) {
	least, greatest, den, ones := 0, 0, 0, 0
	eachMove(func(form []int, m impl.Move) {
		all := slices.Concat(m.Rows...)
		least, greatest, den = min(least, slices.Min(all)), max(greatest, slices.Max(all)), max(den, m.Den)
		if m.Den == 1 {
			ones++
		}
	})
	if least != -entryMax || greatest != entryMax || den != denMax || ones == 0 {
		t.Errorf("the integers of moves are from %d to %d, Den is at most %d, and %d times 1", least, greatest, den, ones)
	}
	sizes, dens := map[int]int{}, map[int]int{}
	for _, c := range beyondMoves() {
		sizes[max(heightOf(slices.Concat(c.table.Rows...)), entryMax)]++
		dens[max(c.table.Den, denMax)]++
		if !keepsForm(c.form, c.table) {
			t.Errorf("%v does not keep the form %v", c.table, c.form)
		}
	}
	if sizes[entryMax+1] != 4 || dens[denMax+1] != 4 {
		t.Errorf("beyond the limits are %v and %v", sizes, dens)
	}
}

func TestMoveStay(t *testing.T) {
	for form := range someForms() {
		if len(form) > movedMax {
			continue
		}
		if m, ok := impl.MoveStay(form); !ok || !sameMoves(m, stayTable(len(form))) {
			t.Errorf("MoveStay(%v) is %v, %t", form, m, ok)
		}
	}
}

// expectMirror checks MoveMirror for any list and any vector.
func expectMirror(t *testing.T, form []int, w []int) bool {
	t.Helper()
	want, good := mirrorOf(form, w)
	got, ok := impl.MoveMirror(form, w)
	if ok != good || ok && !sameMoves(got, want) || !ok && !noMove(got) {
		t.Errorf("MoveMirror(%v, %v) is %v, %t, not %v, %t", form, w, got, ok, want, good)
	}
	return ok
}

func TestMoveMirror(t *testing.T) {
	made, zero, large := 0, 0, 0
	for _, form := range moveForms() {
		for _, w := range mirrorVectors(len(form)) {
			switch ok := expectMirror(t, form, w); {
			case ok:
				made++
			case valueOf(form, w, w) == 0:
				zero++
			default:
				large++
			}
		}
		for _, w := range noMirrors(len(form)) {
			if expectMirror(t, form, w) {
				t.Errorf("MoveMirror(%v, %v) does not fail", form, w)
			}
		}
	}
	if made == 0 || zero == 0 || large == 0 {
		t.Errorf("%d vectors have mirrors, at %d the value is 0, and %d mirrors are too large", made, zero, large)
	}
	for form := range fewForms() {
		expectMirror(t, form, []int{3, -2, 1, 1}[:len(form)])
	}
}

func TestMoveMirrorOfSomeVectors(t *testing.T) {
	for _, c := range []struct {
		form, w []int
		rows    [][]int
		den     int
	}{
		{[]int{1}, []int{1}, [][]int{{-1}}, 1},
		{[]int{-7}, []int{-1000}, [][]int{{-1}}, 1},
		{[]int{1, 1}, []int{1, 2}, [][]int{{3, -4}, {-4, -3}}, 5},
		{[]int{1, 1}, []int{-3, -6}, [][]int{{3, -4}, {-4, -3}}, 5},
		{[]int{1, 1}, []int{1, 1}, [][]int{{0, -1}, {-1, 0}}, 1},
		{[]int{1, 1}, []int{0, 5}, [][]int{{1, 0}, {0, -1}}, 1},
		{[]int{1, -1}, []int{1, 2}, [][]int{{5, -4}, {4, -5}}, 3}, // The value is less than 0.
		{[]int{1, -1}, []int{2, 1}, [][]int{{-5, 4}, {-4, 5}}, 3},
		{[]int{1, 2}, []int{1, 1}, [][]int{{1, -4}, {-2, -1}}, 3},
		{[]int{-1, -2}, []int{1, 1}, [][]int{{1, -4}, {-2, -1}}, 3},
		{[]int{1, 1, 1}, []int{1, 1, 1}, [][]int{{1, -2, -2}, {-2, 1, -2}, {-2, -2, 1}}, 3},
		{[]int{1, 1, -1}, []int{1, 1, 1}, [][]int{{-1, -2, 2}, {-2, -1, 2}, {-2, -2, 3}}, 1},
		{[]int{1, 1, 1}, []int{1000, 0, 0}, [][]int{{-1, 0, 0}, {0, 1, 0}, {0, 0, 1}}, 1},
		{[]int{1, 1, 1}, []int{1001, 0, 0}, nil, 0},
		{[]int{1, 1, 1}, []int{0, 1000, -1000}, [][]int{{1, 0, 0}, {0, 0, 1}, {0, 1, 0}}, 1},
		{[]int{1, 1, 1}, []int{0, 1000, -1001}, nil, 0},
		{[]int{1, 1, 1}, []int{0, 0, 0}, nil, 0},
		{[]int{1, -1}, []int{3, -3}, nil, 0},
		{[]int{1, 1, -1}, []int{3, 4, 5}, nil, 0},
		{[]int{1, -1}, []int{617, 633}, [][]int{{390689, -390561}, {390561, -390689}}, 10000},
		{[]int{1, 1}, []int{100, 1}, nil, 0}, // Den is 10001.
		{[]int{1, 1}, []int{99, 1}, [][]int{{-4900, -99}, {-99, 4900}}, 4901},
		{[]int{1, -1}, []int{1000, 999}, nil, 0}, // The integers are too large: 1998001 and 1998000, with a Den of 1999.
		{[]int{16, 14, -25}, []int{176, 640, 500}, [][]int{{63201, 197120, -275000}, {225280, 718049, -1000000}, {176000, 560000, -780001}}, 1249},
	} {
		m, ok := impl.MoveMirror(c.form, c.w)
		if want := (impl.Move{Rows: c.rows, Den: c.den}); ok != (c.den > 0) || !sameMoves(m, want) {
			t.Errorf("MoveMirror(%v, %v) is %v, %t, not %v", c.form, c.w, m, ok, want)
		}
	}
	for _, c := range beyondMoves() {
		if m, ok := impl.MoveMirror(c.form, c.w); ok || !noMove(m) {
			t.Errorf("MoveMirror(%v, %v) is %v, %t", c.form, c.w, m, ok)
		}
	}
}

// expectMul checks MoveMul for two moves.
func expectMul(t *testing.T, form []int, a impl.Move, b impl.Move) bool {
	t.Helper()
	want := productTable(a, b)
	got, ok := impl.MoveMul(form, a, b)
	if ok != fits(want) || ok && !sameMoves(got, want) || !ok && !noMove(got) {
		t.Errorf("MoveMul(%v, %v, %v) is %v, %t, not %v", form, a, b, got, ok, want)
	}
	return ok
}

func TestMoveMul(t *testing.T) {
	made, denTooLarge, othersTooLarge := 0, 0, 0
	check := func(form []int, a impl.Move, b impl.Move) {
		switch ok := expectMul(t, form, a, b); {
		case ok:
			made++
		case productTable(a, b).Den > denMax:
			denTooLarge++
		default:
			othersTooLarge++
		}
	}
	for _, form := range moveForms() {
		moves := someMoves(form)
		for i, a := range moves {
			for j := i % 7; j < len(moves); j += 7 {
				check(form, a, moves[j])
			}
		}
	}
	for _, c := range slices.Concat(farMoves(), zeroSplits(), noBacks()) {
		n := len(c.form)
		for _, m := range []impl.Move{stayTable(n), c.move, oppositeTable(c.move), mirrorTable(c.form, unitOf(n, n-1))} {
			check(c.form, c.move, m)
			check(c.form, m, c.move)
		}
		if back := backTable(c.move); fits(back) {
			check(c.form, c.move, back)
			check(c.form, back, c.move)
		}
	}
	if made == 0 || denTooLarge == 0 || othersTooLarge == 0 {
		t.Errorf("%d products are moves, of %d Den is too large, and of %d only other integers", made, denTooLarge, othersTooLarge)
	}
}

func TestMoveMulOfSomeMoves(t *testing.T) {
	form := []int{1, 1}
	turn := impl.Move{Rows: [][]int{{3, -4}, {4, 3}}, Den: 5}
	swap := impl.Move{Rows: [][]int{{0, 1}, {1, 0}}, Den: 1}
	for _, c := range []struct{ a, b, want impl.Move }{
		{turn, swap, impl.Move{Rows: [][]int{{-4, 3}, {3, 4}}, Den: 5}},
		{swap, turn, impl.Move{Rows: [][]int{{4, 3}, {3, -4}}, Den: 5}},
		{turn, turn, impl.Move{Rows: [][]int{{-7, -24}, {24, -7}}, Den: 25}},
		{swap, swap, stayTable(2)},
		{turn, impl.Move{Rows: [][]int{{3, 4}, {-4, 3}}, Den: 5}, stayTable(2)},
	} {
		if m, ok := impl.MoveMul(form, c.a, c.b); !ok || !sameMoves(m, c.want) {
			t.Errorf("MoveMul(%v, %v, %v) is %v, %t", form, c.a, c.b, m, ok)
		}
	}
	power, ok := turn, true
	for k := 2; k <= 5; k++ {
		power, ok = impl.MoveMul(form, power, turn)
		if !ok || power.Den != powerOf(5, k) {
			t.Fatalf("the power %d is %v, %t", k, power, ok)
		}
	}
	if m, ok := impl.MoveMul(form, power, turn); ok || !noMove(m) { // Den would be 15625.
		t.Errorf("MoveMul(%v, %v, %v) is %v, %t", form, power, turn, m, ok)
	}
}

func TestMoveBack(t *testing.T) {
	made, failed, otherDen := 0, 0, 0
	eachMove(func(form []int, m impl.Move) {
		want := backTable(m)
		got, ok := impl.MoveBack(form, m)
		if ok != fits(want) || ok && !sameMoves(got, want) || !ok && !noMove(got) {
			t.Errorf("MoveBack(%v, %v) is %v, %t, not %v", form, m, got, ok, want)
		}
		switch {
		case !ok:
			failed++
		case got.Den != m.Den:
			otherDen++
		default:
			made++
		}
	})
	if made == 0 || failed < 5 || otherDen == 0 {
		t.Errorf("MoveBack makes %d moves, and %d with another Den, and fails %d times", made, otherDen, failed)
	}
	for _, c := range noBacks() {
		if m, ok := impl.MoveBack(c.form, c.move); ok || !noMove(m) {
			t.Errorf("MoveBack(%v, %v) is %v, %t", c.form, c.move, m, ok)
		}
	}
}

// someVectors are vectors of n integers for MoveOn, some of them at the limit.
func someVectors(n int) [][]int {
	list := [][]int{make([]int, n), ones(n)}
	for i := range n {
		list = append(list, unitOf(n, i), timesAll(unitOf(n, i), -vectorMax))
	}
	for _, v := range [][]int{{2, -3, 5}, {30, 42, 70}, {-12, 0, 18}, {1000, -1000, 1000}, {999, 1000, -998}, {125, 250, -375}, {720, 840, 960}} {
		list = append(list, v[:n])
	}
	return list
}

func TestMoveOn(t *testing.T) {
	lower, whole := 0, 0
	eachMove(func(form []int, m impl.Move) {
		// A vector that a row and Den have in common much with is taken to lower terms.
		vectors := someVectors(len(form))
		if row := m.Rows[0]; heightOf(row) <= vectorMax {
			vectors = append(vectors, row)
		}
		if m.Den <= vectorMax {
			vectors = append(vectors, timesAll(unitOf(len(form), 0), m.Den))
		}
		for _, v := range vectors {
			want, den := onOf(m, v)
			if to, d := mustOn(t, form, m, v); !slices.Equal(to, want) || d != den {
				t.Errorf("MoveOn(%v, %v, %v) is %v, %d, not %v, %d", form, m, v, to, d, want, den)
			}
			if 1 < den && den < m.Den {
				lower++
			} else if den == 1 && m.Den > 1 {
				whole++
			}
		}
		for _, v := range noMirrors(len(form))[2:4] {
			if to, d, ok := impl.MoveOn(form, m, v); ok != (len(v) == len(form)) || !ok && (len(to) != 0 || d != 0) {
				t.Errorf("MoveOn(%v, %v, %v) is %v, %d, %t", form, m, v, to, d, ok)
			}
		}
	})
	if lower == 0 || whole == 0 {
		t.Errorf("%d vectors have lower terms, and %d are of integers", lower, whole)
	}
}

func TestMoveOnOfSomeVectors(t *testing.T) {
	form := []int{1, 1}
	turn := impl.Move{Rows: [][]int{{3, -4}, {4, 3}}, Den: 5}
	far := impl.Move{Rows: [][]int{{33, -56}, {56, 33}}, Den: 65}
	for _, c := range []struct {
		m       impl.Move
		v, want []int
		den     int
	}{
		{turn, []int{1, 0}, []int{3, 4}, 5},
		{turn, []int{0, -1}, []int{4, -3}, 5},
		{turn, []int{5, 0}, []int{3, 4}, 1},
		{turn, []int{1, 2}, []int{-1, 2}, 1},
		{turn, []int{2, 1}, []int{2, 11}, 5},
		{turn, []int{0, 0}, []int{0, 0}, 1},
		{turn, []int{1000, -1000}, []int{1400, 200}, 1},
		{turn, []int{-1000, 999}, []int{-6996, -1003}, 5},
		{turn, []int{1000, 1001}, nil, 0},
		{turn, []int{-1001, 0}, nil, 0},
		{far, []int{1, 0}, []int{33, 56}, 65},
		{far, []int{5, 0}, []int{33, 56}, 13},
		{far, []int{13, 13}, []int{-23, 89}, 5},
		{far, []int{2, 3}, []int{-102, 211}, 65},
		{far, []int{1, 2}, []int{-79, 122}, 65},
		{far, []int{2, 1}, []int{2, 29}, 13},
		{far, []int{-4, 7}, []int{-524, 7}, 65},
		{far, []int{4, 7}, []int{-4, 7}, 1},
		{far, []int{1, 2, 0}, nil, 0},
		{far, []int{1}, nil, 0},
		{far, nil, nil, 0},
	} {
		to, d, ok := impl.MoveOn(form, c.m, c.v)
		if !slices.Equal(to, c.want) || d != c.den || ok != (c.den > 0) {
			t.Errorf("MoveOn(%v, %v, %v) is %v, %d, %t, not %v, %d", form, c.m, c.v, to, d, ok, c.want, c.den)
		}
	}
}

func TestMoveOnLimits(t *testing.T) {
	for _, form := range [][]int{{-3}, {2, -7}, {1, 1, 1}, {16, 14, -25}} {
		for _, m := range someMoves(form) {
			eachLimitVector(len(form), func(v []int, x int, inRange bool) {
				to, d, ok := impl.MoveOn(form, m, v)
				if ok != inRange || !ok && (len(to) != 0 || d != 0) {
					t.Errorf("MoveOn(%v, %v, %v) is %v, %d, %t", form, m, v, to, d, ok)
				}
			})
			for n := range 6 {
				if to, d, ok := impl.MoveOn(form, m, ones(n)); ok != (n == len(form)) || !ok && (len(to) != 0 || d != 0) {
					t.Errorf("MoveOn(%v, %v, %v) is %v, %d, %t", form, m, ones(n), to, d, ok)
				}
			}
		}
	}
}

func TestMoveSign(t *testing.T) {
	signs := map[int]int{}
	eachMove(func(form []int, m impl.Move) {
		// The determinant is that of a move of fractions times the powers of Den.
		want := determinantOfTable(m) / powerOf(m.Den, len(form))
		if got := impl.MoveSign(form, m); got != want {
			t.Errorf("MoveSign(%v, %v) is %d, not %d", form, m, got, want)
		}
		signs[want]++
	})
	if len(signs) != 2 || signs[1] == 0 || signs[-1] == 0 {
		t.Errorf("the numbers of signs are %v", signs)
	}
}

// expectOf checks MoveOf for any list and vectors.
func expectOf(t *testing.T, form []int, list [][]int) bool {
	t.Helper()
	want, good := mirrorsOf(form, list)
	got, ok := impl.MoveOf(form, list)
	if ok != good || ok && !sameMoves(got, want) || !ok && !noMove(got) {
		t.Errorf("MoveOf(%v, %v) is %v, %t, not %v, %t", form, list, got, ok, want, good)
	}
	return ok
}

func TestMoveOf(t *testing.T) {
	made, failed := map[int]int{}, 0
	for _, form := range moveForms() {
		vectors := mirrorVectors(len(form))
		expectOf(t, form, nil)
		for i := 0; i < len(vectors); i += 3 {
			for n := range mirrorsMax + 3 {
				list := slices.Repeat(vectors[i:min(i+3, len(vectors))], n)[:n]
				if expectOf(t, form, list) {
					made[n]++
				} else {
					failed++
				}
			}
		}
	}
	for n := range mirrorsMax + 3 {
		if (made[n] > 0) != (n <= mirrorsMax) {
			t.Errorf("there are %d moves of %d vectors", made[n], n)
		}
	}
	if failed == 0 {
		t.Error("no list fails")
	}
}

func TestMoveOfSomeLists(t *testing.T) {
	one, large, zero := []int{1, 0}, []int{60, 1}, []int{0, 0}
	for _, c := range []struct {
		form []int
		list [][]int
		want impl.Move
	}{
		{[]int{1, 1}, nil, stayTable(2)},
		{[]int{1, 1}, [][]int{}, stayTable(2)},
		{[]int{1, 1}, [][]int{{1, 2}}, impl.Move{Rows: [][]int{{3, -4}, {-4, -3}}, Den: 5}},
		{[]int{1, 1}, [][]int{{1, 2}, {1, 0}}, impl.Move{Rows: [][]int{{-3, -4}, {4, -3}}, Den: 5}},
		{[]int{1, 1}, [][]int{{1, 0}, {1, 2}}, impl.Move{Rows: [][]int{{-3, 4}, {-4, -3}}, Den: 5}},
		{[]int{1, 1}, slices.Repeat([][]int{one}, 6), stayTable(2)},
		{[]int{1, 1}, slices.Repeat([][]int{one}, 5), impl.Move{Rows: [][]int{{-1, 0}, {0, 1}}, Den: 1}},
		{[]int{1, 1}, slices.Repeat([][]int{one}, 7), impl.Move{}},
		{[]int{1, 1}, slices.Repeat([][]int{one}, 8), impl.Move{}},
		{[]int{1, 1}, [][]int{large, large}, stayTable(2)},
		// The product of the first two mirrors is no move, though that of all is.
		{[]int{1, 1}, [][]int{large, {2, 59}, {2, 59}, large}, impl.Move{}},
		{[]int{1, 1}, [][]int{large, large, {2, 59}, {2, 59}}, stayTable(2)},
		{[]int{1, 1}, [][]int{one, large, large, one, {2, 59}, {2, 59}}, stayTable(2)},
		{[]int{1, 1}, [][]int{one, zero}, impl.Move{}},
		{[]int{1, 1}, [][]int{zero, one}, impl.Move{}},
		{[]int{1, 1}, [][]int{{100, 1}, {100, 1}}, impl.Move{}}, // The mirror is none.
		{[]int{1, -1}, [][]int{{1, 1}}, impl.Move{}},
		{[]int{1, 1}, [][]int{one, nil}, impl.Move{}},
		{[]int{1, 1}, [][]int{one, {1, 0, 0}}, impl.Move{}},
		{[]int{1, 1}, [][]int{one, {1}}, impl.Move{}},
		{[]int{1, 1}, [][]int{{0, 1001}}, impl.Move{}},
		{[]int{1, 1}, [][]int{{0, -1000}}, impl.Move{Rows: [][]int{{1, 0}, {0, -1}}, Den: 1}},
		{[]int{-5}, [][]int{{3}, {-7}, {1}}, impl.Move{Rows: [][]int{{-1}}, Den: 1}},
		{[]int{1, 1, 1}, [][]int{{1, -1, 0}, {0, 1, -1}}, impl.Move{Rows: [][]int{{0, 0, 1}, {1, 0, 0}, {0, 1, 0}}, Den: 1}},
	} {
		m, ok := impl.MoveOf(c.form, c.list)
		if ok != (c.want.Den > 0) || !sameMoves(m, c.want) {
			t.Errorf("MoveOf(%v, %v) is %v, %t, not %v", c.form, c.list, m, ok, c.want)
		}
		expectOf(t, c.form, c.list)
	}
	for _, form := range [][]int{{2}, {1, -2}, {3, 1, 1}} {
		unit := unitOf(len(form), 0)
		for _, w := range append(noMirrors(len(form)), slices.Repeat([]int{1}, 1000)) {
			for _, list := range [][][]int{{w}, {unit, w}, {w, unit}, {unit, unit, unit, unit, unit, w}} {
				if m, ok := impl.MoveOf(form, list); ok || !noMove(m) {
					t.Errorf("MoveOf(%v, %v) is %v, %t", form, list, m, ok)
				}
			}
		}
		if m, ok := impl.MoveOf(form, slices.Repeat([][]int{unit}, 10000)); ok || !noMove(m) {
			t.Errorf("MoveOf(%v) of 10000 vectors is %v, %t", form, m, ok)
		}
	}
}

func TestMoveSplit(t *testing.T) {
	lengths, failed := map[[2]int]int{}, 0
	eachMove(func(form []int, m impl.Move) {
		want, good := mirrorsSplit(form, m)
		got, ok := impl.MoveSplit(form, m)
		if ok != good || !sameLists(got, want) {
			t.Errorf("MoveSplit(%v, %v) is %v, %t, not %v, %t", form, m, got, ok, want, good)
		}
		if ok {
			lengths[[2]int{len(form), len(got)}]++
		} else {
			failed++
		}
	})
	// Only a difference at the first place of three can have the value 0: one at another place has the pair 0 with the unit there and those ahead, and so at most one integer that is not 0.
	for n := 1; n <= movedMax; n++ {
		for length := range 2*movedMax + 1 {
			if possible := length <= n || n == 3 && length == 4; possible != (lengths[[2]int{n, length}] > 0) {
				t.Errorf("%d moves of %d terms have %d vectors", lengths[[2]int{n, length}], n, length)
			}
		}
	}
	if failed == 0 {
		t.Error("no MoveSplit fails")
	}
}

func TestMoveSplitOfSomeMoves(t *testing.T) {
	for _, c := range []struct {
		form []int
		m    impl.Move
		want [][]int
		ok   bool
	}{
		{[]int{-5}, impl.Move{Rows: [][]int{{1}}, Den: 1}, nil, true},
		{[]int{-5}, impl.Move{Rows: [][]int{{-1}}, Den: 1}, [][]int{{1}}, true},
		{[]int{1, 1}, stayTable(2), nil, true},
		{[]int{1, 1}, oppositeTable(stayTable(2)), [][]int{{1, 0}, {0, 1}}, true},
		{[]int{1, 1}, impl.Move{Rows: [][]int{{3, -4}, {-4, -3}}, Den: 5}, [][]int{{1, 2}}, true},
		{[]int{1, 1}, impl.Move{Rows: [][]int{{3, -4}, {4, 3}}, Den: 5}, [][]int{{1, -2}, {0, 1}}, true},
		{[]int{1, 1}, impl.Move{Rows: [][]int{{1, 0}, {0, -1}}, Den: 1}, [][]int{{0, 1}}, true}, // It leaves the first place where it is.
		{[]int{1, 1}, impl.Move{Rows: [][]int{{-1, 0}, {0, 1}}, Den: 1}, [][]int{{1, 0}}, true},
		{[]int{1, 1}, impl.Move{Rows: [][]int{{0, 1}, {1, 0}}, Den: 1}, [][]int{{1, -1}}, true},
		{[]int{1, 1, 1}, impl.Move{Rows: [][]int{{1, 0, 0}, {0, 3, -4}, {0, -4, -3}}, Den: 1}, nil, false},
		{[]int{1, 1, 1}, impl.Move{Rows: [][]int{{5, 0, 0}, {0, 3, -4}, {0, -4, -3}}, Den: 5}, [][]int{{0, 1, 2}}, true},
		{[]int{1, 1, 1}, impl.Move{Rows: [][]int{{3, 0, -4}, {0, 5, 0}, {-4, 0, -3}}, Den: 5}, [][]int{{1, 0, 2}}, true},
		{[]int{1, 1, 1}, impl.Move{Rows: [][]int{{0, 0, 1}, {1, 0, 0}, {0, 1, 0}}, Den: 1}, [][]int{{1, -1, 0}, {0, 1, -1}}, true},
		{[]int{1, 1, 1}, impl.Move{Rows: [][]int{{-1, 0, 0}, {0, -1, 0}, {0, 0, -1}}, Den: 1}, [][]int{{1, 0, 0}, {0, 1, 0}, {0, 0, 1}}, true},
		// The first unit is taken to 1, -1, -1: the difference has the value 0.
		{[]int{1, 1, -1}, impl.Move{Rows: [][]int{{2, 2, -2}, {-2, 1, 1}, {-2, -1, 3}}, Den: 2}, [][]int{{2, -1, -1}, {1, 0, 0}}, true},
		{[]int{1, 1, -1}, impl.Move{Rows: [][]int{{2, 2, 2}, {-2, 1, -1}, {-2, -1, -3}}, Den: 2}, [][]int{{2, -1, -1}, {1, 0, 0}, {0, 0, 1}}, true},
		{[]int{1, -1}, impl.Move{Rows: [][]int{{5, -4}, {4, -5}}, Den: 3}, [][]int{{1, 2}}, true},
		{[]int{1, -1}, impl.Move{Rows: [][]int{{5, 4}, {4, 5}}, Den: 3}, [][]int{{1, 2}, {0, 1}}, true},
	} {
		got, ok := impl.MoveSplit(c.form, c.m)
		if ok != c.ok || !sameLists(got, c.want) {
			t.Errorf("MoveSplit(%v, %v) is %v, %t, not %v, %t", c.form, c.m, got, ok, c.want, c.ok)
		}
	}
	for _, c := range lateSplits() {
		if list, ok := impl.MoveSplit(c.form, c.move); ok || len(list) != 0 {
			t.Errorf("MoveSplit(%v, %v) is %v, %t", c.form, c.move, list, ok)
		}
	}
	for _, c := range zeroSplits() {
		list, ok := impl.MoveSplit(c.form, c.move)
		if !ok || len(list) < 2 || !slices.Equal(list[1], []int{1, 0, 0}) {
			t.Errorf("MoveSplit(%v, %v) is %v, %t", c.form, c.move, list, ok)
		}
	}
}

// expectCarry checks MoveCarry for any list and vectors.
func expectCarry(t *testing.T, form []int, u []int, v []int) ([][]int, bool) {
	t.Helper()
	want, good := mirrorsCarry(form, u, v)
	got, ok := impl.MoveCarry(form, u, v)
	if ok != good || !sameLists(got, want) {
		t.Errorf("MoveCarry(%v, %v, %v) is %v, %t, not %v, %t", form, u, v, got, ok, want, good)
	}
	return got, ok
}

// carriedVectors are vectors of n integers, of many of which the values are the same.
func carriedVectors(n int) [][]int {
	list := slices.Collect(listsOf(n, sizesTo(2)))
	for _, v := range [][]int{{3, 4, 0}, {5, 0, 0}, {0, 5, 5}, {4, 3, 1}, {-6, 8, 2}, {500, 0, 0}, {-500, 500, 500}, {300, -400, 0}, {400, 300, 500}} {
		list = append(list, v[:n])
	}
	return list
}

func TestMoveCarry(t *testing.T) {
	lengths, failed := map[[2]int]int{}, 0
	for _, form := range moveForms() {
		vectors := carriedVectors(len(form))
		for i, u := range vectors {
			for j, v := range vectors {
				if len(form) == 3 && i != j && valueOf(form, u, u) != valueOf(form, v, v) && (i+j)%7 != 0 {
					continue
				}
				if list, ok := expectCarry(t, form, u, v); ok {
					lengths[[2]int{len(form), len(list)}]++
				} else {
					failed++
				}
			}
		}
	}
	for n := 1; n <= movedMax; n++ {
		for length := range 4 {
			if possible := length <= 1 || n == 3 && length == 2; possible != (lengths[[2]int{n, length}] > 0) {
				t.Errorf("for %d terms, %d lists have %d vectors", n, lengths[[2]int{n, length}], length)
			}
		}
	}
	if failed == 0 {
		t.Error("no MoveCarry fails")
	}
}

func TestMoveCarryOfSomeVectors(t *testing.T) {
	for _, c := range []struct {
		form, u, v []int
		want       [][]int
		ok         bool
	}{
		{[]int{1, 1}, []int{1, 0}, []int{0, 1}, [][]int{{1, -1}}, true},
		{[]int{1, 1}, []int{0, 1}, []int{1, 0}, [][]int{{1, -1}}, true},
		{[]int{1, 1}, []int{3, 4}, []int{5, 0}, [][]int{{1, -2}}, true},
		{[]int{1, 1}, []int{3, 4}, []int{3, 4}, nil, true},
		{[]int{1, 1}, []int{3, 4}, []int{-3, -4}, [][]int{{3, 4}}, true},
		{[]int{1, 1}, []int{3, 4}, []int{3, -4}, [][]int{{0, 1}}, true},
		{[]int{1, 1}, []int{3, 4}, []int{5, 1}, nil, false},
		{[]int{1, 1}, []int{0, 0}, []int{0, 0}, nil, false},
		{[]int{1, -1}, []int{1, 1}, []int{1, 1}, nil, false}, // The value is 0.
		{[]int{1, -1}, []int{1, 1}, []int{2, 2}, nil, false},
		{[]int{1, -1}, []int{1, 1}, []int{1, -1}, nil, false},
		{[]int{1, -1}, []int{0, 0}, []int{1, 1}, nil, false},
		{[]int{-7}, []int{3}, []int{-3}, [][]int{{1}}, true},
		{[]int{-7}, []int{3}, []int{3}, nil, true},
		{[]int{-7}, []int{3}, []int{2}, nil, false},
		// The difference has the value 0.
		{[]int{1, 1, -1}, []int{1, 1, 1}, []int{1, 0, 0}, [][]int{{2, 1, 1}, {1, 0, 0}}, true},
		{[]int{1, 1, -1}, []int{1, 0, 0}, []int{1, 1, 1}, [][]int{{2, 1, 1}, {1, 1, 1}}, true},
		{[]int{1, 1, -1}, []int{-2, 2, -2}, []int{-2, 0, 0}, [][]int{{2, -1, 1}, {1, 0, 0}}, true},
		{[]int{1, 1, -1}, []int{2, 0, 0}, []int{2, -4, 4}, [][]int{{1, -1, 1}, {1, -2, 2}}, true},
		{[]int{1, 1, -1}, []int{500, 500, 500}, []int{500, 0, 0}, [][]int{{2, 1, 1}, {1, 0, 0}}, true},
		{[]int{1, 1, -1}, []int{501, 501, 501}, []int{501, 0, 0}, nil, false},
		{[]int{1, 1, -1}, []int{500, 499, 499}, []int{500, -1, -1}, [][]int{{500, 249, 249}, {500, -1, -1}}, true},
		{[]int{1, 1, -1}, []int{500, 0, 0}, []int{-500, 500, -500}, [][]int{{2, -1, 1}}, true},
		{[]int{1, 1}, []int{500, 0}, []int{-500, 0}, [][]int{{1, 0}}, true},
		{[]int{1, 1}, []int{501, 0}, []int{-501, 0}, nil, false},
		{[]int{1, 1}, []int{501, 0}, []int{501, 0}, nil, false},
		{[]int{1, 1}, []int{500, 500}, []int{500, -500}, [][]int{{0, 1}}, true},
		{[]int{1, 1}, []int{500, 499}, []int{-499, -500}, [][]int{{1, 1}}, true},
		{[]int{1, 1}, []int{500, 501}, []int{501, -500}, nil, false},
		{[]int{1, 1}, []int{496, 63}, []int{-63, -496}, [][]int{{1, 1}}, true},
		{[]int{1, 1}, []int{496, 63}, []int{-500, 0}, nil, false}, // The values are 249985 and 250000.
		{[]int{1, 1}, []int{480, 140}, []int{500, 0}, [][]int{{1, -7}}, true},
		{[]int{1, 1}, []int{300, 400}, []int{0, 500}, [][]int{{3, -1}}, true},
		{[]int{1, 1}, []int{1, 0, 0}, []int{0, 1}, nil, false},
		{[]int{1, 1}, []int{1, 0}, []int{0, 1, 0}, nil, false},
		{[]int{1, 1}, []int{1}, []int{1}, nil, false},
		{[]int{1, 1}, nil, nil, nil, false},
	} {
		got, ok := impl.MoveCarry(c.form, c.u, c.v)
		if ok != c.ok || !sameLists(got, c.want) {
			t.Errorf("MoveCarry(%v, %v, %v) is %v, %t, not %v, %t", c.form, c.u, c.v, got, ok, c.want, c.ok)
		}
	}
}

func TestMoveCarryLimits(t *testing.T) {
	integers := append(noComponents(), carryMax+1, -carryMax-1, vectorMax, -vectorMax, carryMax, -carryMax, 499, 0)
	for _, form := range [][]int{{5}, {1, 1}, {3, -3}, {1, -1, 1}, {-2, -2, -2}} {
		n := len(form)
		for i := range n {
			for _, x := range integers {
				v := slices.Repeat([]int{2}, n)
				v[i] = x
				opposite := slices.Clone(v)
				opposite[i] = -x
				for _, u := range [][]int{v, reversed(v), opposites(v), opposite} {
					expectCarry(t, form, u, v)
					expectCarry(t, form, v, u)
				}
			}
		}
		for k := range 6 {
			expectCarry(t, form, ones(k), ones(k))
			expectCarry(t, form, ones(n), ones(k))
			expectCarry(t, form, ones(k), ones(n))
		}
		expectCarry(t, form, nil, ones(n))
		expectCarry(t, form, ones(n), nil)
		expectCarry(t, form, slices.Repeat([]int{math.MinInt}, n), ones(n))
	}
}

// cloneOf copies a move to memory of its own.
func cloneOf(m impl.Move) impl.Move {
	return withEntry(m, 0, 0, m.Rows[0][0])
}

// spoil fills all memory of some lists, also that beyond their ends.
func spoil(lists [][]int) {
	for _, list := range lists {
		for i := range list[:cap(list)] {
			list[:cap(list)][i] = 77
		}
	}
	clear(lists[:cap(lists)])
}

func TestMovesKeepNothing(t *testing.T) {
	// The memory behind the lists belongs to the caller, too.
	memory := []int{1, 1, -1, 2, 1, 1, 2, 2, -2, -2, 1, 1, -2, -1, 3, 9}
	kept := slices.Clone(memory)
	form, w := memory[:3], memory[3:6]
	m := impl.Move{Rows: [][]int{memory[6:9], memory[9:12], memory[12:15]}, Den: 2}
	unit := []int{1, 0, 0}
	list := [][]int{w, unit}
	moves := func() []impl.Move {
		stay, _ := impl.MoveStay(form)
		mirror, _ := impl.MoveMirror(form, w)
		first, _ := impl.MoveMul(form, m, stayTable(3))
		second, _ := impl.MoveMul(form, stayTable(3), m)
		back, _ := impl.MoveBack(form, m)
		none, _ := impl.MoveOf(form, nil)
		two, _ := impl.MoveOf(form, list)
		return []impl.Move{stay, mirror, first, second, back, none, two}
	}
	vectors := func() [][][]int {
		split, _ := impl.MoveSplit(form, m)
		one, _ := impl.MoveCarry(form, unit, []int{0, 1, 0})
		two, _ := impl.MoveCarry(form, []int{1, 1, 1}, unit)
		on, _, _ := impl.MoveOn(form, stayTable(3), w)
		return [][][]int{split, one, two, {on}}
	}
	wantMoves, wantVectors := moves(), vectors()
	for i, move := range wantMoves {
		wantMoves[i] = cloneOf(move)
	}
	if !sameMoves(wantMoves[2], m) || !sameMoves(wantMoves[3], m) {
		t.Errorf("MoveMul of %v and the one that stays is %v and %v", m, wantMoves[2], wantMoves[3])
	}
	if !sameLists(wantVectors[0], [][]int{{2, -1, -1}, {1, 0, 0}}) || !sameLists(wantVectors[2], [][]int{{2, 1, 1}, {1, 0, 0}}) {
		t.Errorf("MoveSplit is %v, and MoveCarry %v", wantVectors[0], wantVectors[2])
	}
	for range 2 {
		for i, move := range moves() {
			if !sameMoves(move, wantMoves[i]) {
				t.Errorf("move %d is %v, not %v", i, move, wantMoves[i])
			}
			rows := slices.Clone(move.Rows)
			for j, row := range rows {
				if !slices.Equal(row, wantMoves[i].Rows[j]) {
					t.Errorf("row %d of move %d is %v: it shares memory with another one", j, i, row)
				}
				spoil([][]int{row})
			}
			spoil(move.Rows)
		}
		for i, lists := range vectors() {
			if !sameLists(lists, wantVectors[i]) {
				t.Errorf("list %d is %v, not %v", i, lists, wantVectors[i])
			}
			for j, v := range lists {
				if !slices.Equal(v, wantVectors[i][j]) {
					t.Errorf("vector %d of list %d is %v: it shares memory with another one", j, i, v)
				}
				spoil([][]int{v})
			}
			spoil(lists)
		}
		impl.MoveValid(form, m)
		impl.MoveSign(form, m)
		impl.MoveOn(form, m, w)
		impl.MoveMul(form, m, m)
		if !slices.Equal(memory, kept) || !slices.Equal(unit, []int{1, 0, 0}) || len(m.Rows) != 3 || m.Den != 2 {
			t.Fatalf("the lists are %v and %v, and were %v", memory, unit, kept)
		}
	}
}
