package word_test

import (
	"math"
	"testing"

	"stackyard/stamp"
	"stackyard/word"
)

type (
	S = stamp.Stamp
	W = word.Word
)

// wrongs are words of which just one part is out of its bounds.
var wrongs = []W{
	{State: -1},
	{State: 3},
	{State: 4},
	{State: math.MinInt},
	{State: math.MaxInt},
	{End: -1},
	{End: 2},
	{End: math.MinInt},
	{End: math.MaxInt},
	{Gen: -1},
	{Gen: word.MaxGen + 1},
	{Gen: math.MinInt},
	{Gen: math.MaxInt},
	{Stamp: S{Lo: -1}},
	{Stamp: S{Lo: stamp.Top + 1}},
	{Stamp: S{Lo: math.MinInt}},
	{Stamp: S{Lo: math.MaxInt}},
	{Stamp: S{Hi: -1}},
	{Stamp: S{Hi: stamp.Top + 1}},
	{Stamp: S{Hi: math.MinInt}},
	{Stamp: S{Hi: math.MaxInt}},
}

// rights are all words of which each part is at its bounds, or between them.
func rights() []W {
	var list []W
	for _, state := range []word.State{word.Free, word.Live, word.Gone} {
		for _, end := range []word.End{word.Left, word.Right} {
			for _, gen := range []int{0, 1, 4242, word.MaxGen} {
				for _, lo := range []int{0, 2, 1 << 23, stamp.Top - 1, stamp.Top} {
					for _, hi := range []int{0, 3, 1 << 23, stamp.Top - 1, stamp.Top} {
						list = append(list, W{State: state, End: end, Gen: gen, Stamp: S{Lo: lo, Hi: hi}})
					}
				}
			}
		}
	}
	return list
}

// P2.1: the numbers of the states and ends, and how often a place may be used.
func TestConstants(t *testing.T) {
	if word.Free != 0 || word.Live != 1 || word.Gone != 2 || word.Left != 0 || word.Right != 1 || word.MaxGen != 8191 {
		t.Error("constants")
	}
}

// P2.1: which words are Right; a Stamp whose Lo is above its Hi is no fault of theirs.
func TestRight(t *testing.T) {
	for _, w := range rights() {
		if !w.Right() {
			t.Errorf("%v isn't Right", w)
		}
	}
	for _, w := range wrongs {
		if w.Right() {
			t.Errorf("%v is Right", w)
		}
	}
}

// P2.1: the bits of each part.
func TestPack(t *testing.T) {
	for _, x := range []struct {
		w    W
		want uint64
	}{
		{W{}, 0},
		{W{State: word.Live, End: word.Right, Gen: 1, Stamp: S{Lo: 2, Hi: 3}}, 1 + 4 + 8 + 2*65536 + 3*1099511627776},
		{W{State: word.Live}, 1},
		{W{State: word.Gone}, 2},
		{W{End: word.Right}, 4},
		{W{Gen: 1}, 8},
		{W{Gen: word.MaxGen}, 0xFFF8},
		{W{Stamp: S{Lo: 1}}, 0x10000},
		{W{Stamp: S{Lo: stamp.Top}}, 0xFFFFFF0000},
		{W{Stamp: S{Hi: 1}}, 0x10000000000},
		{W{Stamp: S{Hi: stamp.Top}}, 0xFFFFFF0000000000},
		{W{State: word.Gone, End: word.Right, Gen: word.MaxGen, Stamp: S{Lo: stamp.Top, Hi: stamp.Top}}, math.MaxUint64 - 1},
	} {
		if got := x.w.Pack(); got != x.want {
			t.Errorf("Pack of %v: %#x, want %#x", x.w, got, x.want)
		}
		if got := word.Unpack(x.want); got != x.w {
			t.Errorf("Unpack of %#x: %v, want %v", x.want, got, x.w)
		}
	}
}

// P2.1: Unpack turns Pack back, and no two words are packed alike.
func TestUnpackTurnsPackBack(t *testing.T) {
	seen := map[uint64]W{}
	for _, w := range rights() {
		x := w.Pack()
		if got := word.Unpack(x); got != w {
			t.Errorf("%v is packed to %#x, and unpacked to %v", w, x, got)
		}
		if o, ok := seen[x]; ok {
			t.Errorf("%v and %v are both packed to %#x", w, o, x)
		}
		seen[x] = w
	}
}

// P2.1: a word that isn't Right is packed to 0, whatever its other parts are.
func TestPackOfWrongs(t *testing.T) {
	for _, w := range wrongs {
		if got := w.Pack(); got != 0 {
			t.Errorf("Pack of %v: %#x", w, got)
		}
	}
	for _, w := range []W{
		{State: 3, End: word.Right, Gen: 7, Stamp: S{Lo: 1, Hi: 2}},
		{State: word.Live, End: 2, Gen: 7, Stamp: S{Lo: 1, Hi: 2}},
		{State: word.Live, End: word.Right, Gen: word.MaxGen + 1, Stamp: S{Lo: 1, Hi: 2}},
		{State: word.Live, End: word.Right, Gen: 7, Stamp: S{Lo: stamp.Top + 1, Hi: 2}},
		{State: word.Live, End: word.Right, Gen: 7, Stamp: S{Lo: 1, Hi: stamp.Top + 1}},
	} {
		if got := w.Pack(); got != 0 {
			t.Errorf("Pack of %v: %#x", w, got)
		}
	}
}

// P2.1: any number is unpacked; of State 3 it isn't Right, else it is, and is packed to that number.
func TestUnpackOfAnyNumber(t *testing.T) {
	for _, x := range []struct {
		x    uint64
		want W
	}{
		{3, W{State: 3}},
		{7, W{State: 3, End: word.Right}},
		{math.MaxUint64, W{State: 3, End: word.Right, Gen: word.MaxGen, Stamp: S{Lo: stamp.Top, Hi: stamp.Top}}},
		{1 << 63, W{Stamp: S{Hi: 1 << 23}}},
		{1 << 39, W{Stamp: S{Lo: 1 << 23}}},
		{1 << 15, W{Gen: 1 << 12}},
	} {
		if got := word.Unpack(x.x); got != x.want {
			t.Errorf("Unpack of %#x: %v, want %v", x.x, got, x.want)
		}
	}
	for _, high := range []uint64{0, 1, 0x5555555555555555, 0xAAAAAAAAAAAAAAAA, 0x0123456789ABCDEF, math.MaxUint64} {
		for low := range uint64(8) {
			x := high<<3 | low
			w := word.Unpack(x)
			if isThree := x%4 == 3; w.Right() == isThree || !isThree && w.Pack() != x || isThree && w.Pack() != 0 {
				t.Errorf("%#x is unpacked to %v: Right %v, packed to %#x", x, w, w.Right(), w.Pack())
			}
		}
	}
}

// P2.2: Taken turns the State alone, of any word.
func TestTaken(t *testing.T) {
	for _, w := range append(rights(), wrongs...) {
		was := w
		want := W{State: word.Gone, End: w.End, Gen: w.Gen, Stamp: w.Stamp}
		if got := w.Taken(); got != want || w != was {
			t.Errorf("%v Taken: %v", was, got)
		}
	}
}

// P2.2: Next, of any word, end and stamp.
func TestNext(t *testing.T) {
	s := S{Lo: 8, Hi: 9}
	for _, x := range []struct {
		w    W
		end  word.End
		s    S
		want W
	}{
		{W{}, word.Left, S{}, W{State: word.Live, End: word.Left, Gen: 1}},
		{W{}, word.Right, s, W{State: word.Live, End: word.Right, Gen: 1, Stamp: s}},
		{W{State: word.Gone, End: word.Right, Gen: 41, Stamp: S{Lo: 2, Hi: 3}}, word.Left, s, W{State: word.Live, End: word.Left, Gen: 42, Stamp: s}},
		{W{State: word.Live, End: word.Left, Gen: 41, Stamp: S{Lo: 2, Hi: 3}}, word.Left, S{}, W{State: word.Live, End: word.Left, Gen: 42}},
		{W{State: word.Gone, Gen: word.MaxGen - 1}, word.Right, s, W{State: word.Live, End: word.Right, Gen: word.MaxGen, Stamp: s}},
		// What comes of these isn't Right.
		{W{State: word.Gone, Gen: word.MaxGen}, word.Left, s, W{State: word.Live, Gen: word.MaxGen + 1, Stamp: s}},
		{W{State: 9, End: -4, Gen: -3}, 7, S{Lo: 5, Hi: -1}, W{State: word.Live, End: 7, Gen: -2, Stamp: S{Lo: 5, Hi: -1}}},
	} {
		if got := x.w.Next(x.end, x.s); got != x.want {
			t.Errorf("%v Next %d, %v: %v, want %v", x.w, x.end, x.s, got, x.want)
		}
	}
	if (W{State: word.Gone, Gen: word.MaxGen}).Next(word.Left, s).Pack() != 0 {
		t.Error("a place was used once too often")
	}
}

// P2.2: Other, of what is no end too.
func TestOther(t *testing.T) {
	for _, x := range []struct{ end, want word.End }{
		{word.Left, word.Right},
		{word.Right, word.Left},
		{2, word.Left},
		{-1, word.Left},
		{math.MinInt, word.Left},
		{math.MaxInt, word.Left},
	} {
		if got := x.end.Other(); got != x.want {
			t.Errorf("Other of %d: %d", x.end, got)
		}
	}
}
