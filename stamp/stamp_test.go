package stamp_test

import (
	"math"
	"slices"
	"testing"

	"stackyard/stamp"
)

type S = stamp.Stamp

// numbers are those at which a bound lies, those beside them, and the outermost ones.
var numbers = []int{math.MinInt, -2, -1, 0, 1, 2, stamp.Top - 1, stamp.Top, stamp.Top + 1, math.MaxInt}

// all is every stamp of these numbers, Right or not.
func all() []S {
	var list []S
	for _, lo := range numbers {
		for _, hi := range numbers {
			list = append(list, S{Lo: lo, Hi: hi})
		}
	}
	return list
}

// P1.1: Top, and which stamps are Right.
func TestRight(t *testing.T) {
	if stamp.Top != 16777215 {
		t.Errorf("Top is %d", stamp.Top)
	}
	for _, x := range []struct {
		s    S
		want bool
	}{
		{S{}, true},
		{S{Lo: 2, Hi: 5}, true},
		{S{Lo: 5, Hi: 5}, true},
		{S{Lo: 0, Hi: stamp.Top - 1}, true},
		{S{Lo: stamp.Top - 1, Hi: stamp.Top - 1}, true},
		{S{Lo: 6, Hi: 5}, false},
		{S{Lo: 1, Hi: 0}, false},
		{S{Lo: -1, Hi: 0}, false},
		{S{Lo: -1, Hi: -1}, false},
		{S{Lo: 0, Hi: -1}, false},
		{S{Lo: 0, Hi: stamp.Top}, false},
		{S{Lo: stamp.Top, Hi: stamp.Top}, false},
		{S{Lo: stamp.Top, Hi: stamp.Top - 1}, false},
		{S{Lo: math.MinInt, Hi: 3}, false},
		{S{Lo: 3, Hi: math.MaxInt}, false},
		{S{Lo: math.MinInt, Hi: math.MaxInt}, false},
	} {
		if got := x.s.Right(); got != x.want {
			t.Errorf("%v Right: %v", x.s, got)
		}
	}
}

// P1.1: Before, Apart, Compare of pairs, from both sides.
func TestPairs(t *testing.T) {
	for _, x := range []struct {
		a, b             S
		before, behind   bool
		compare, reverse int
	}{
		{S{2, 5}, S{6, 6}, true, false, -1, 1},
		{S{2, 5}, S{5, 9}, false, false, -1, 1},
		{S{2, 5}, S{2, 5}, false, false, 0, 0},
		{S{2, 5}, S{2, 6}, false, false, -1, 1},
		{S{2, 9}, S{3, 4}, false, false, -1, 1},
		{S{0, 0}, S{1, 1}, true, false, -1, 1},
		{S{0, 0}, S{0, 0}, false, false, 0, 0},
		// These aren't Right.
		{S{-5, -3}, S{-2, -9}, true, true, -1, 1},
		{S{9, 1}, S{9, 1}, true, true, 0, 0},
		{S{9, 1}, S{5, 5}, true, true, 1, -1},
		{S{math.MinInt, math.MinInt}, S{math.MaxInt, math.MaxInt}, true, false, -1, 1},
		{S{0, math.MinInt}, S{0, math.MaxInt}, true, false, -1, 1},
	} {
		if x.a.Before(x.b) != x.before || x.b.Before(x.a) != x.behind {
			t.Errorf("%v and %v: Before %v, %v", x.a, x.b, x.a.Before(x.b), x.b.Before(x.a))
		}
		if apart := x.before || x.behind; x.a.Apart(x.b) != apart || x.b.Apart(x.a) != apart {
			t.Errorf("%v and %v: Apart %v, %v", x.a, x.b, x.a.Apart(x.b), x.b.Apart(x.a))
		}
		if x.a.Compare(x.b) != x.compare || x.b.Compare(x.a) != x.reverse {
			t.Errorf("%v and %v: Compare %d, %d", x.a, x.b, x.a.Compare(x.b), x.b.Compare(x.a))
		}
	}
}

// P1.1: Compare is an order of all stamps, by Lo, then by Hi.
func TestCompareIsAnOrder(t *testing.T) {
	list := all() // numbers are in order, so these are too
	for i, a := range list {
		for j, b := range list {
			want := 0
			if i < j {
				want = -1
			} else if i > j {
				want = 1
			}
			if got := a.Compare(b); got != want {
				t.Errorf("%v Compare %v: %d, want %d", a, b, got, want)
			}
		}
	}
}

// P1.1: Join.
func TestJoin(t *testing.T) {
	for _, x := range []struct{ a, b, want S }{
		{S{2, 5}, S{6, 6}, S{2, 6}},
		{S{2, 9}, S{3, 4}, S{2, 9}},
		{S{2, 5}, S{4, 8}, S{2, 8}},
		{S{2, 5}, S{2, 5}, S{2, 5}},
		{S{0, 0}, S{stamp.Top - 1, stamp.Top - 1}, S{0, stamp.Top - 1}},
		// These aren't Right: still the lesser Lo, the greater Hi.
		{S{9, 1}, S{5, 5}, S{5, 5}},
		{S{9, 1}, S{7, 0}, S{7, 1}},
		{S{-3, -2}, S{math.MinInt, math.MaxInt}, S{math.MinInt, math.MaxInt}},
	} {
		if got := x.a.Join(x.b); got != x.want {
			t.Errorf("%v Join %v: %v", x.a, x.b, got)
		}
		if got := x.b.Join(x.a); got != x.want {
			t.Errorf("%v Join %v: %v", x.b, x.a, got)
		}
	}
}

// P1.2: Least.
func TestLeast(t *testing.T) {
	a, b, c, d := S{2, 5}, S{6, 6}, S{5, 9}, S{2, 4}
	bad := S{Lo: -1, Hi: -7}
	for _, x := range []struct {
		list []S
		want int
	}{
		{nil, -1},
		{[]S{}, -1},
		{[]S{b}, 0},
		{[]S{{}}, 0},
		{[]S{a, b, c}, 0},
		{[]S{b, c, a}, 2},
		{[]S{b, c, c}, 1},
		{[]S{b, a, c, a}, 1},
		{[]S{a, a, a}, 0},
		{[]S{a, d}, 1},
		{[]S{d, a}, 0},
		{[]S{a, bad, d, bad}, 1},
		{[]S{{math.MaxInt, math.MaxInt}, {math.MaxInt, math.MinInt}}, 1},
	} {
		if got := stamp.Least(x.list...); got != x.want {
			t.Errorf("Least of %v: %d, want %d", x.list, got, x.want)
		}
	}
	if stamp.Least() != -1 || stamp.Least(b, c, a) != 2 {
		t.Error("Least, one by one")
	}
}

// P1.2: none is less than Least's, and each one ahead of it is greater; the list stays.
func TestLeastOfAll(t *testing.T) {
	list := all()
	for range list {
		list = append(list[7:], list[:7]...) // of another start each time
		was := slices.Clone(list)
		n := stamp.Least(list...)
		if !slices.Equal(was, list) {
			t.Fatal("Least has changed its list")
		}
		for i, s := range list {
			if c := list[n].Compare(s); c > 0 || i < n && c == 0 {
				t.Fatalf("Least: %v at %d, but %v at %d", list[n], n, s, i)
			}
		}
	}
}

// P1.2: of Right stamps, one that is Before another one is less.
func TestBeforeIsLess(t *testing.T) {
	seen := 0
	for _, a := range all() {
		for _, b := range all() {
			if a.Right() && b.Right() && a.Before(b) {
				seen++
				if a.Compare(b) != -1 || stamp.Least(b, a) != 1 || stamp.Least(a, b) != 0 {
					t.Errorf("%v is Before %v, but not less", a, b)
				}
			}
		}
	}
	if seen == 0 {
		t.Error("no pair was held")
	}
}
