package tests

import (
	"math"
	"slices"
	"testing"

	"loop.example/localglobal/impl"
)

// The limits of the chapter on moves.
const (
	denMax     = 10000
	movedMax   = 3
	entryMax   = 1000000
	mirrorsMax = 6
	carryMax   = 500
)

// unitOf has 1 at a place and 0 elsewhere.
func unitOf(n int, i int) []int {
	unit := make([]int, n)
	unit[i] = 1
	return unit
}

func columnOf(m impl.Move, j int) []int {
	column := []int{}
	for _, row := range m.Rows {
		column = append(column, row[j])
	}
	return column
}

func columnsOf(m impl.Move) [][]int {
	columns := [][]int{}
	for j := range m.Rows {
		columns = append(columns, columnOf(m, j))
	}
	return columns
}

// tableOf writes columns over a denominator, not 0, in lowest terms.
func tableOf(columns [][]int, den int) impl.Move {
	d := divisorOf(append(slices.Concat(columns...), den)...)
	if den < 0 {
		d = -d
	}
	m := impl.Move{Den: den / d}
	for i := range columns {
		row := []int{}
		for _, column := range columns {
			row = append(row, column[i]/d)
		}
		m.Rows = append(m.Rows, row)
	}
	return m
}

func sameMoves(a impl.Move, b impl.Move) bool {
	return a.Den == b.Den && slices.EqualFunc(a.Rows, b.Rows, slices.Equal[[]int])
}

func noMove(m impl.Move) bool {
	return m.Den == 0 && len(m.Rows) == 0
}

// fits tells of a table whether all of it is in range.
func fits(m impl.Move) bool {
	all := slices.Concat(m.Rows...)
	return 1 <= m.Den && m.Den <= denMax && within(all, len(all), entryMax)
}

// keepsForm compares the values at all sums of two units: they tell the pairs.
func keepsForm(form []int, m impl.Move) bool {
	for i := range form {
		for j := range form {
			from := sumOf(unitOf(len(form), i), unitOf(len(form), j))
			to := sumOf(columnOf(m, i), columnOf(m, j))
			if valueOf(form, to, to) != valueOf(form, from, from)*m.Den*m.Den {
				return false
			}
		}
	}
	return true
}

// isMovable tells whether a list is a form that has moves.
func isMovable(form []int) bool {
	return isForm(form) && len(form) <= movedMax
}

func isMove(form []int, m impl.Move) bool {
	if !isMovable(form) || len(m.Rows) != len(form) {
		return false
	}
	for _, row := range m.Rows {
		if len(row) != len(form) {
			return false
		}
	}
	return fits(m) && divisorOf(append(slices.Concat(m.Rows...), m.Den)...) == 1 && keepsForm(form, m)
}

func stayTable(n int) impl.Move {
	units := [][]int{}
	for i := range n {
		units = append(units, unitOf(n, i))
	}
	return tableOf(units, 1)
}

// oppositeTable is the one that takes each vector to the opposite of where another one takes it.
func oppositeTable(m impl.Move) impl.Move {
	columns := [][]int{}
	for _, column := range columnsOf(m) {
		columns = append(columns, opposites(column))
	}
	return tableOf(columns, m.Den)
}

// imageOf is where a table takes a vector, times Den.
func imageOf(m impl.Move, v []int) []int {
	sum := make([]int, len(v))
	for j, x := range v {
		sum = sumOf(sum, timesAll(columnOf(m, j), x))
	}
	return sum
}

// mirrorTable takes each unit e to q e - 2 b w, over q: what 2 b is, is told by the values at e, w and the sum of both. It may be out of range.
func mirrorTable(form []int, w []int) impl.Move {
	columns, q := [][]int{}, valueOf(form, w, w)
	for i := range form {
		e := unitOf(len(form), i)
		sum := sumOf(e, w)
		twice := valueOf(form, sum, sum) - valueOf(form, e, e) - q
		columns = append(columns, sumOf(timesAll(e, q), timesAll(w, -twice)))
	}
	return tableOf(columns, q)
}

// productTable does the second table first. It may be out of range.
func productTable(a impl.Move, b impl.Move) impl.Move {
	columns := [][]int{}
	for _, column := range columnsOf(b) {
		columns = append(columns, imageOf(a, column))
	}
	return tableOf(columns, a.Den*b.Den)
}

// threeColumns are the columns of a table of at most three rows, and units for those that it does not have: its determinant is theirs.
func threeColumns(m impl.Move) [][]int {
	columns := [][]int{unitOf(3, 0), unitOf(3, 1), unitOf(3, 2)}
	for j, column := range columnsOf(m) {
		copy(columns[j], column)
	}
	return columns
}

func determinantOfTable(m impl.Move) int {
	columns := threeColumns(m)
	return determinantOf(columns[0], columns[1], columns[2])
}

// backTable solves the equations of the rows for each unit, by Cramer's rule: so it does not need the form. It may be out of range.
func backTable(m impl.Move) impl.Move {
	n := len(m.Rows)
	columns := [][]int{}
	for j := range n {
		column := make([]int, n)
		for i := range n {
			changed := threeColumns(m)
			changed[i] = unitOf(3, j)
			column[i] = m.Den * determinantOf(changed[0], changed[1], changed[2])
		}
		columns = append(columns, column)
	}
	return tableOf(columns, determinantOfTable(m))
}

// onOf tells where a move takes a vector, in lowest terms.
func onOf(m impl.Move, v []int) ([]int, int) {
	image := imageOf(m, v)
	d := divisorOf(append(slices.Clone(image), m.Den)...)
	for i := range image {
		image[i] /= d
	}
	return image, m.Den / d
}

// mirrorOf tells what MoveMirror is to return, or false.
func mirrorOf(form []int, w []int) (impl.Move, bool) {
	if !isMovable(form) || !within(w, len(form), vectorMax) || valueOf(form, w, w) == 0 {
		return impl.Move{}, false
	}
	m := mirrorTable(form, w)
	return m, fits(m)
}

// mirrorsOf tells what MoveOf is to return, or false.
func mirrorsOf(form []int, list [][]int) (impl.Move, bool) {
	if !isMovable(form) || len(list) > mirrorsMax {
		return impl.Move{}, false
	}
	m := stayTable(len(form))
	for _, w := range list {
		mirror, ok := mirrorOf(form, w)
		if !ok {
			return impl.Move{}, false
		}
		if m = productTable(m, mirror); !fits(m) {
			return impl.Move{}, false
		}
	}
	return m, true
}

// mirrorsSplit tells what MoveSplit is to return for a move, or false.
func mirrorsSplit(form []int, m impl.Move) ([][]int, bool) {
	noted := [][]int{}
	for i := range form {
		e := timesAll(unitOf(len(form), i), m.Den)
		u := columnOf(m, i)
		next := [][]int{}
		difference := sumOf(u, opposites(e))
		if valueOf(form, difference, difference) != 0 {
			next = append(next, lowestOf(difference))
		} else if !slices.Equal(u, e) {
			next = append(next, lowestOf(sumOf(u, e)), unitOf(len(form), i))
		}
		for _, w := range next {
			mirror, ok := mirrorOf(form, w)
			if !ok {
				return nil, false
			}
			if m = productTable(mirror, m); !fits(m) {
				return nil, false
			}
			noted = append(noted, w)
		}
	}
	return noted, true
}

// mirrorsCarry tells what MoveCarry is to return, or false.
func mirrorsCarry(form []int, u []int, v []int) ([][]int, bool) {
	n := len(form)
	if !isMovable(form) || !within(u, n, carryMax) || !within(v, n, carryMax) || valueOf(form, u, u) != valueOf(form, v, v) || valueOf(form, v, v) == 0 {
		return nil, false
	}
	difference := sumOf(u, opposites(v))
	switch {
	case slices.Equal(u, v):
		return nil, true
	case valueOf(form, difference, difference) != 0:
		return [][]int{lowestOf(difference)}, true
	}
	return [][]int{lowestOf(sumOf(u, v)), lowestOf(v)}, true
}

func sameLists(a [][]int, b [][]int) bool {
	return slices.EqualFunc(a, b, slices.Equal[[]int])
}

// moveForms are forms of one, two and three terms, of one sign and of both; of many of them some vector, not 0, has the value 0.
func moveForms() [][]int {
	forms := [][]int{}
	for n, terms := range [][]int{{-30, -7, -1, 1, 2, 12, 30}, {-30, -12, -7, -1, 1, 3, 4, 9, 25, 29}, {-25, -6, -1, 1, 2, 4, 15}} {
		forms = slices.AppendSeq(forms, listsOf(n+1, terms))
	}
	return forms
}

// mirrorVectors are vectors of n integers, not all 0, some of them not plain, and some of great integers.
func mirrorVectors(n int) [][]int {
	list := [][]int{}
	for v := range listsOf(n, []int{-1, 0, 2}) {
		if heightOf(v) > 0 {
			list = append(list, v)
		}
	}
	for _, v := range [][]int{{1, 0, 0}, {1, 1, 0}, {1, 1, 1}, {2, 1, 3}, {-3, 6, 3}, {4, -1, 5}, {5, 7, -2}, {17, 12, 4}, {100, -37, 61}, {-1000, 1000, 1000}, {1000, 0, -1}, {0, 999, 1000}} {
		if heightOf(v[:n]) > 0 {
			list = append(list, v[:n])
		}
	}
	return list
}

// someMoves lists moves of a form: the one that stays, its opposite, mirrors, and products of more and more of them.
func someMoves(form []int) []impl.Move {
	stay := stayTable(len(form))
	list := []impl.Move{stay, oppositeTable(stay)}
	made := stay
	for i, w := range mirrorVectors(len(form)) {
		mirror, ok := mirrorOf(form, w)
		if !ok {
			continue
		}
		if i%3 == 0 {
			list = append(list, mirror)
		}
		next := productTable(mirror, made)
		if !fits(next) {
			next = mirror
		}
		made = next
		if i%2 == 0 {
			list = append(list, made, oppositeTable(made))
		}
	}
	return list
}

// formMove is a table for a form.
type formMove struct {
	form []int
	move impl.Move
}

// farMoves are moves with an integer of size 1000000, or a Den of 10000, or near to it.
func farMoves() []formMove {
	list := []formMove{}
	for _, c := range []struct{ form, w []int }{
		{[]int{16, 14, -25}, []int{176, 640, 500}}, // 1000000
		{[]int{6, 7, -10}, []int{500, 126, 400}},
		{[]int{16, 6, -9}, []int{750, 38, 1000}},
		{[]int{1, -27}, []int{777, 143}}, // 999999
		{[]int{27, -1}, []int{143, 777}},
		{[]int{1, -1}, []int{617, 633}}, // a Den of 10000
		{[]int{-1, 25}, []int{665, -117}},
		{[]int{21, 15, 4}, []int{56, 54, 51}},
		{[]int{-9, -7, -16}, []int{11, -19, 32}},
	} {
		m := mirrorTable(c.form, c.w)
		list = append(list, formMove{c.form, m}, formMove{c.form, oppositeTable(m)})
	}
	return list
}

// beyondMove is a form, a vector and the table of its mirror, which keeps the form but is no move.
type beyondMove struct {
	form, w []int
	table   impl.Move
}

// beyondMoves are mirrors with an integer of size 1000001, or a Den of 10001.
func beyondMoves() []beyondMove {
	list := []beyondMove{}
	for _, c := range []struct{ form, w []int }{
		{[]int{25, 18, -15}, []int{122, 187, 258}}, // 1000001
		{[]int{-15, 18, 25}, []int{258, 187, 122}},
		{[]int{18, -15, 25}, []int{187, -258, 122}},
		{[]int{9, 24, -11}, []int{704, 254, 738}},
		{[]int{1, -25}, []int{32, 21}}, // a Den of 10001
		{[]int{-19, 1}, []int{43, 123}},
		{[]int{9, 4, 2}, []int{48, 57, 56}},
		{[]int{12, 3, 4}, []int{44, -47, 6}},
	} {
		list = append(list, beyondMove{c.form, c.w, mirrorTable(c.form, c.w)})
	}
	return list
}

// zeroSplits are moves of forms of three terms that take the first unit to it and a zero more, so that the difference has the value 0.
func zeroSplits() []formMove {
	list := []formMove{}
	for _, c := range []struct{ form, w, next []int }{
		{[]int{1, 1, -1}, []int{2, 1, 1}, nil},
		{[]int{1, 1, -1}, []int{2, 1, -1}, []int{0, 1, 0}},
		{[]int{1, 1, -1}, []int{3, -5, 5}, []int{0, 0, 1}},
		{[]int{1, 1, -1}, []int{1, 7, 7}, []int{0, 2, 1}},
		{[]int{-1, -1, 1}, []int{4, 3, -3}, []int{0, 3, -1}},
		{[]int{-7, 3, -3}, []int{1, 1, 1}, nil},
		{[]int{30, -5, 5}, []int{5, 2, 2}, []int{0, 1, -4}},
		{[]int{2, 9, -4}, []int{5, 2, 3}, nil},
		{[]int{2, -4, 9}, []int{-1, 6, 4}, []int{0, 3, 1}},
		{[]int{11, 27, -12}, []int{2, 4, -6}, []int{0, 1, 1}},
		{[]int{30, -2, 2}, []int{8, -15, 15}, []int{0, 3, 5}},
	} {
		mirrors := [][]int{c.w, {1, 0, 0}}
		if c.next != nil {
			mirrors = append(mirrors, c.next)
		}
		m, ok := mirrorsOf(c.form, mirrors)
		if !ok {
			panic("a table of the list is no move")
		}
		list = append(list, formMove{c.form, m})
	}
	return list
}

// noBacks are moves that MoveBack leads to none.
func noBacks() []formMove {
	list := []formMove{}
	for _, c := range []struct{ form, u, w []int }{
		{[]int{-9, 16, 23}, []int{-1, 2, -2}, []int{-4, 3, -6}},
		{[]int{19, 2, 9}, []int{-2, 5, -5}, []int{-3, 6, 5}},
		{[]int{23, -25, 23}, []int{-4, 4, 3}, []int{5, 6, 0}},
		{[]int{26, -11, -26}, []int{-6, -2, 6}, []int{-4, 5, -4}},
		{[]int{9, 27, -19}, []int{0, -3, 4}, []int{-6, -2, -5}},
	} {
		list = append(list, formMove{c.form, productTable(mirrorTable(c.form, c.u), mirrorTable(c.form, c.w))})
	}
	return list
}

// lateSplits are moves that MoveSplit fails for only behind the first place: the vector to be noted for the second one is too large.
func lateSplits() []formMove {
	return []formMove{
		{[]int{5, -16, 29}, impl.Move{Rows: [][]int{{-5960, 0, 0}, {0, 182396, 245427}, {0, 135408, 182396}}, Den: 5960}},
		{[]int{-16, 17, -29}, impl.Move{Rows: [][]int{{-3198, 0, 0}, {0, -600727, 784595}, {0, 459935, -600727}}, Den: 3198}},
		{[]int{7, 3, -26}, impl.Move{Rows: [][]int{{-8323, 0, 0}, {0, 91523, -268320}, {0, -30960, 91523}}, Den: 8323}},
	}
}

// eachMove calls a function for many moves.
func eachMove(use func(form []int, m impl.Move)) {
	for _, form := range moveForms() {
		for _, m := range someMoves(form) {
			use(form, m)
		}
	}
	for _, c := range slices.Concat(farMoves(), zeroSplits(), lateSplits(), noBacks()) {
		use(c.form, c.move)
	}
}

// withEntry changes one integer of a table.
func withEntry(m impl.Move, i int, j int, x int) impl.Move {
	changed := impl.Move{Den: m.Den}
	for _, row := range m.Rows {
		changed.Rows = append(changed.Rows, slices.Clone(row))
	}
	changed.Rows[i][j] = x
	return changed
}

func withDen(m impl.Move, den int) impl.Move {
	return impl.Move{Rows: m.Rows, Den: den}
}

// misshapen lists tables with a row too few or too many, or with a row that is too short or too long, made of a move.
func misshapen(m impl.Move) []impl.Move {
	n := len(m.Rows)
	list := []impl.Move{
		{Den: m.Den}, {},
		{Rows: m.Rows[:n-1], Den: m.Den},
		{Rows: append(slices.Clone(m.Rows), make([]int, n)), Den: m.Den},
		{Rows: append(slices.Clone(m.Rows), nil), Den: m.Den},
		{Rows: append([][]int{make([]int, n)}, m.Rows...), Den: m.Den},
		{Rows: slices.Repeat(m.Rows, 100), Den: m.Den},
	}
	for i, row := range m.Rows {
		for _, other := range [][]int{nil, row[:n-1], append(slices.Clone(row), 0), append([]int{0}, row...), make([]int, 1000)} {
			rows := slices.Clone(m.Rows)
			rows[i] = other
			list = append(list, impl.Move{Rows: rows, Den: m.Den})
		}
	}
	wide, narrow := impl.Move{Den: m.Den}, impl.Move{Den: m.Den}
	for _, row := range m.Rows {
		wide.Rows = append(wide.Rows, append(slices.Clone(row), 0))
		narrow.Rows = append(narrow.Rows, row[:n-1])
	}
	square := impl.Move{Rows: append(slices.Clone(wide.Rows), unitOf(n+1, n)), Den: m.Den}
	return append(list, wide, narrow, square)
}

// notLowest are the tables of a move with a common factor.
func notLowest(m impl.Move) []impl.Move {
	list := []impl.Move{}
	for _, d := range []int{2, 3, 5, 7, 30} {
		times := impl.Move{Den: m.Den * d}
		for _, row := range m.Rows {
			times.Rows = append(times.Rows, timesAll(row, d))
		}
		list = append(list, times)
	}
	return list
}

// noDens are integers that no function takes for a Den.
func noDens() []int {
	return []int{0, -1, -2, -5, -denMax, denMax + 1, denMax + 2, 2 * denMax, 1 << 16, 1<<16 + 1, 1 << 32, 1<<32 + 1, -1 << 32, 1 << 62, math.MaxInt, math.MinInt, math.MinInt + 1}
}

// noEntries are integers that no function takes for one of a table. Some squares of them would be 0 or 1 if they were cut.
func noEntries() []int {
	return []int{entryMax + 1, -entryMax - 1, 2 * entryMax, 1 << 31, 1<<31 + 1, 1 << 32, -1 << 32, 1<<32 + 1, 1 << 62, math.MaxInt, math.MinInt, math.MinInt + 1}
}

// noMoves are a form of each number of terms and tables that are no moves of it.
func noMoves() []formMove {
	list := []formMove{}
	for _, form := range [][]int{{1}, {-7}, {1, 1}, {3, -12}, {1, 1, 1}, {2, -1, 15}, {-6, -1, -1}} {
		n := len(form)
		for _, m := range []impl.Move{stayTable(n), mirrorTable(form, []int{1, 3, 5}[:n])} {
			tables := slices.Concat(misshapen(m), notLowest(m))
			for _, den := range noDens() {
				tables = append(tables, withDen(m, den), withDen(oppositeTable(m), den))
			}
			for i := range n {
				for j := range n {
					for _, x := range append(noEntries(), m.Rows[i][j]+1, m.Rows[i][j]-3) {
						tables = append(tables, withEntry(m, i, j, x))
					}
				}
			}
			tables = append(tables, withDen(m, m.Den+1), withDen(m, m.Den+4), withDen(m, denMax), withEntry(m, n-1, 0, 1<<32+m.Rows[n-1][0]))
			for _, table := range tables {
				list = append(list, formMove{form, table})
			}
		}
	}
	for _, c := range beyondMoves() {
		list = append(list, formMove{c.form, c.table}, formMove{c.form, oppositeTable(c.table)})
	}
	for _, c := range []struct {
		form []int
		m    impl.Move
	}{
		{[]int{1, 2}, impl.Move{Rows: [][]int{{0, 1}, {1, 0}}, Den: 1}}, // It keeps other forms.
		{[]int{1, 1}, impl.Move{Rows: [][]int{{3, 4}, {4, 3}}, Den: 5}},
		{[]int{1, 1}, impl.Move{Rows: [][]int{{1, 0}, {1, 0}}, Den: 1}},
		{[]int{1, 1}, impl.Move{Rows: [][]int{{1, 1}, {0, 1}}, Den: 1}},
		{[]int{1, -1}, impl.Move{Rows: [][]int{{0, 1}, {1, 0}}, Den: 1}},
		{[]int{1, -1}, impl.Move{Rows: [][]int{{3, 4}, {-4, 3}}, Den: 5}},
		{[]int{1, 1, 1}, impl.Move{Rows: [][]int{{1, 0, 0}, {0, 1, 0}, {0, 0, 0}}, Den: 1}},
		{[]int{1, 1, 1}, impl.Move{Rows: [][]int{{1, 0, 0}, {0, 0, 1}, {0, 0, 1}}, Den: 1}},
		{[]int{2, 1, 1}, impl.Move{Rows: [][]int{{0, 1, 0}, {1, 0, 0}, {0, 0, 1}}, Den: 1}},
		{[]int{5}, impl.Move{Rows: [][]int{{0}}, Den: 1}},
		{[]int{5}, impl.Move{Rows: [][]int{{2}}, Den: 1}},
		{[]int{5}, impl.Move{Rows: [][]int{{1}}, Den: 2}},
		{[]int{5}, impl.Move{Rows: [][]int{{1}}, Den: math.MaxInt}}, // Its square would be cut to 1.
		{[]int{5}, impl.Move{Rows: [][]int{{math.MaxInt}}, Den: 1}},
		{[]int{5}, impl.Move{Rows: [][]int{{-1}}, Den: -1}},
	} {
		list = append(list, formMove{c.form, c.m})
	}
	return list
}

// noMovables are lists that are no forms, or forms of four terms.
func noMovables() [][]int {
	return append(noForms(), []int{1, 1, 1, 1}, []int{1, -1, 1, -1}, []int{-30, 2, 3, 30})
}

// noMirrors are vectors for a form of which MoveMirror makes no move, but for those at which the value is 0.
func noMirrors(n int) [][]int {
	list := [][]int{nil, {}, make([]int, n), ones(n + 1), ones(n + 2), ones(n - 1), ones(100)}
	for i := range n {
		for _, x := range noComponents() {
			v := ones(n)
			v[i] = x
			list = append(list, v)
		}
	}
	return list
}

func mustMirror(t *testing.T, form []int, w []int) impl.Move {
	t.Helper()
	m, ok := impl.MoveMirror(form, w)
	if !ok || len(m.Rows) != len(form) {
		t.Fatalf("MoveMirror(%v, %v) is %v, %t", form, w, m, ok)
	}
	return m
}

func mustStay(t *testing.T, form []int) impl.Move {
	t.Helper()
	m, ok := impl.MoveStay(form)
	if !ok || len(m.Rows) != len(form) {
		t.Fatalf("MoveStay(%v) is %v, %t", form, m, ok)
	}
	return m
}

func mustOn(t *testing.T, form []int, m impl.Move, v []int) ([]int, int) {
	t.Helper()
	to, d, ok := impl.MoveOn(form, m, v)
	if !ok || len(to) != len(form) || d < 1 {
		t.Fatalf("MoveOn(%v, %v, %v) is %v, %d, %t", form, m, v, to, d, ok)
	}
	return to, d
}
