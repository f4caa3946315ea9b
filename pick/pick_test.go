package pick_test

import (
	"math"
	"slices"
	"testing"

	"stackyard/pick"
	"stackyard/stamp"
	"stackyard/word"
)

type W = word.Word

// noState is a word whose State is 3, which Pack can't tell; none of its other bits is 0.
const noState = math.MaxUint64

// at is the word of what came at an end.
func at(end word.End, lo, hi int) uint64 {
	return W{State: word.Live, End: end, Gen: 1, Stamp: stamp.Stamp{Lo: lo, Hi: hi}}.Pack()
}

func left(lo, hi int) uint64  { return at(word.Left, lo, hi) }
func right(lo, hi int) uint64 { return at(word.Right, lo, hi) }

// holds tells of an Order, or of an At, that isn't as it should be.
func holds(t *testing.T, words []uint64, want ...int) {
	t.Helper()
	if got := pick.Order(words); !slices.Equal(got, want) {
		t.Errorf("Order of %x: %v, want %v", words, got, want)
	}
	first, last := -1, -1
	if len(want) > 0 {
		first, last = want[0], want[len(want)-1]
	}
	if got := pick.At(words, word.Left); got != first {
		t.Errorf("At the Left of %x: %d, want %d", words, got, first)
	}
	if got := pick.At(words, word.Right); got != last {
		t.Errorf("At the Right of %x: %d, want %d", words, got, last)
	}
}

// P8.1: the chapter's example.
func TestExample(t *testing.T) {
	holds(t, []uint64{right(1, 1), left(2, 2), right(3, 3)}, 1, 0, 2)
}

// P8.1: of no places, and of such of which none is Live, there is none.
func TestNone(t *testing.T) {
	s := stamp.Stamp{Lo: 1, Hi: 2}
	free := W{End: word.Right, Gen: 7, Stamp: s}.Pack()
	gone := W{State: word.Gone, Gen: 7, Stamp: s}.Pack()
	for _, words := range [][]uint64{nil, {}, {0}, {0, 0, 0}, {gone}, {free}, {3}, {noState}, {noState, free, 0, gone}} {
		holds(t, words)
	}
}

// P8.1: of one place that is Live it is the place, wherever it is, at both ends.
func TestOne(t *testing.T) {
	gone := W{State: word.Gone, Stamp: stamp.Stamp{Lo: 9, Hi: 9}}.Pack()
	for _, x := range []uint64{1, left(0, 0), right(0, 0), left(5, 6), right(stamp.Top, stamp.Top)} {
		holds(t, []uint64{x}, 0)
		holds(t, []uint64{0, x}, 1)
		holds(t, []uint64{x, gone}, 0)
		holds(t, []uint64{noState, gone, 0, x, 0, gone, noState}, 3)
	}
}

// P8.1: at the Left a later one stands ahead of another one, at the Right behind it; all of the Left ahead of the Right.
func TestEnds(t *testing.T) {
	for _, x := range []struct {
		words []uint64
		want  []int
	}{
		{[]uint64{left(1, 1), left(2, 2), left(3, 3)}, []int{2, 1, 0}},
		{[]uint64{left(3, 3), left(2, 2), left(1, 1)}, []int{0, 1, 2}},
		{[]uint64{right(1, 1), right(2, 2), right(3, 3)}, []int{0, 1, 2}},
		{[]uint64{right(3, 3), right(2, 2), right(1, 1)}, []int{2, 1, 0}},
		{[]uint64{right(1, 1), left(1, 1)}, []int{1, 0}},
		{[]uint64{left(1, 1), right(1, 1)}, []int{0, 1}},
		{[]uint64{right(0, 0), left(9, 9)}, []int{1, 0}},
		{[]uint64{right(9, 9), left(0, 0)}, []int{1, 0}},
		{[]uint64{left(4, 4), right(3, 3), left(6, 6), right(5, 5)}, []int{2, 0, 1, 3}},
		{[]uint64{left(4, 4), 0, right(3, 3), noState, left(6, 6), right(5, 5)}, []int{4, 0, 2, 5}},
	} {
		holds(t, x.words, x.want...)
	}
}

// P8.1: later is whose Stamp's Lo is greater; of the same Lo whose Hi is; of the same Stamps who has the greater number.
func TestLater(t *testing.T) {
	for _, x := range []struct{ aLo, aHi, bLo, bHi int }{ // each a is later than b only if it isn't a's number that tells
		{2, 2, 1, 1}, {2, 2, 1, 9}, {2, 9, 1, 1}, {2, 2, 1, 2}, {1, 2, 1, 1}, {0, 1, 0, 0},
		{stamp.Top, 0, stamp.Top - 1, stamp.Top}, {5, 1, 4, 9}, {5, 1, 5, 0}, {0, stamp.Top, 0, stamp.Top - 1},
		{1 << 23, 0, 1<<23 - 1, 0}, {0, 1 << 23, 0, 1<<23 - 1},
	} {
		holds(t, []uint64{left(x.aLo, x.aHi), left(x.bLo, x.bHi)}, 0, 1)
		holds(t, []uint64{left(x.bLo, x.bHi), left(x.aLo, x.aHi)}, 1, 0)
		holds(t, []uint64{right(x.aLo, x.aHi), right(x.bLo, x.bHi)}, 1, 0)
		holds(t, []uint64{right(x.bLo, x.bHi), right(x.aLo, x.aHi)}, 0, 1)
	}
	for _, x := range []struct{ lo, hi int }{{0, 0}, {1, 9}, {9, 1}, {stamp.Top, stamp.Top}} {
		l, r := left(x.lo, x.hi), right(x.lo, x.hi)
		holds(t, []uint64{l, l, l}, 2, 1, 0)
		holds(t, []uint64{r, r, r}, 0, 1, 2)
		holds(t, []uint64{r, l, r, l, 0, l}, 5, 3, 1, 0, 2)
	}
}

// P8.1: how often a place was used is all one.
func TestGen(t *testing.T) {
	used := func(end word.End, gen int) uint64 {
		return W{State: word.Live, End: end, Gen: gen, Stamp: stamp.Stamp{Lo: 4, Hi: 4}}.Pack()
	}
	holds(t, []uint64{used(word.Right, word.MaxGen), used(word.Right, 0), used(word.Right, 9)}, 0, 1, 2)
	holds(t, []uint64{used(word.Left, word.MaxGen), used(word.Left, 0), used(word.Left, 9)}, 2, 1, 0)
}

// P8.1: at an end that is neither the Left nor the Right nothing stands.
func TestNoEnd(t *testing.T) {
	for _, end := range []word.End{-1, 2, 3, math.MinInt, math.MaxInt} {
		for _, words := range [][]uint64{nil, {0}, {left(1, 1)}, {right(1, 1), left(2, 2)}} {
			if got := pick.At(words, end); got != -1 {
				t.Errorf("At %d of %x: %d", end, words, got)
			}
		}
	}
}

// P8.1: what is handed in isn't changed, and an answer is new memory.
func TestNew(t *testing.T) {
	words := []uint64{right(3, 3), left(1, 1), 0, right(2, 2)}
	was := slices.Clone(words)
	a, b := pick.Order(words), pick.Order(words)
	a[0], a[1] = 99, 98
	_ = append(a[:0], 7, 7, 7)
	if !slices.Equal(b, []int{1, 3, 0}) {
		t.Errorf("another answer is %v", b)
	}
	holds(t, words, 1, 3, 0)
	if !slices.Equal(words, was) {
		t.Errorf("words are %x, were %x", words, was)
	}
}

// later is the chapter's word, of places a and b.
func later(a, b int, v, w stamp.Stamp) bool {
	if v != w {
		return v.Lo > w.Lo || v.Lo == w.Lo && v.Hi > w.Hi
	}
	return a > b
}

// should is the order: each place stands where as many are on its left as belong there.
func should(words []uint64) []int {
	type place struct {
		n int
		W
	}
	var list []place
	for i, x := range words {
		if x&3 == 1 {
			list = append(list, place{i, word.Unpack(x)})
		}
	}
	order := make([]int, len(list))
	for _, a := range list {
		n := 0
		for _, b := range list {
			switch {
			case a.n == b.n:
			case a.End != b.End && b.End == word.Left,
				a.End == b.End && a.End == word.Left && later(b.n, a.n, b.Stamp, a.Stamp),
				a.End == b.End && a.End == word.Right && later(a.n, b.n, a.Stamp, b.Stamp):
				n++
			}
		}
		order[n] = a.n
	}
	return order
}

// P8.1: on many places, made by a rule of numbers; among them many of the same Stamps.
func TestMany(t *testing.T) {
	x := uint64(11)
	next := func() uint64 {
		x = x*6364136223846793005 + 1442695040888963407
		return x>>33 ^ x<<20
	}
	for i := range 2000 {
		words := make([]uint64, next()%24)
		for j := range words {
			words[j] = next()
			if i%2 == 0 { // Stamps of 0 to 3 alone
				words[j] &= 3<<40 | 3<<16 | 1<<16 - 1
			}
			if next()%2 == 0 {
				words[j] = words[j]&^3 | uint64(word.Live)
			}
		}
		holds(t, words, should(words)...)
	}
}

// P8.1: of as many places as there may be.
func TestLimits(t *testing.T) {
	words := make([]uint64, 4096)
	for i := range words {
		if i%3 != 0 {
			words[i] = at(word.End(i%2), i/2*7919%1000, 2000)
		}
	}
	holds(t, words, should(words)...)
	for i := range words {
		words[i] = right(5, 5)
	}
	holds(t, words, should(words)...)
}
