package hist_test

import (
	"maps"
	"math"
	"slices"
	"testing"

	"stackyard/hist"
	"stackyard/stamp"
	"stackyard/task"
	"stackyard/word"
	"stackyard/yard"
)

type (
	Call  = task.Call
	Deed  = yard.Deed
	Reply = task.Reply
)

const (
	least = math.MinInt
	great = math.MaxInt
	top   = math.MaxUint64
)

// deed is a thread's call, of which nothing is told but when it was.
func deed(who, from, to int) Deed { return Deed{Who: who, From: from, To: to} }

// put is one that is over.
func put(value uint64, ok bool) Deed {
	return Deed{Call: Call{Value: value}, Reply: Reply{OK: ok}}
}

// get is one that is over.
func get(value uint64, ok bool) Deed {
	return Deed{Call: Call{Kind: task.Get}, Reply: Reply{OK: ok, Value: value}}
}

// edges are the numbers at which a From, or a To, may turn what is told.
var edges = []int{least, least + 1, -2, -1, 0, 1, 2, 3, 4, 5, great - 1, great}

// P14.1: the chapter's example, both ways round.
func TestExample(t *testing.T) {
	a, b, c := deed(0, 0, 4), deed(1, 5, 9), deed(1, 3, 7)
	if !hist.Before(a, b) || hist.Before(a, c) || hist.Before(b, a) || hist.Before(c, a) {
		t.Error("Before")
	}
}

// P14.1: Before: a's To is 0 or above, and less than b's From; a's From and b's To are all one.
func TestBefore(t *testing.T) {
	for _, x := range []struct {
		to, from int
		want     bool
	}{
		{0, 1, true}, {0, 0, false}, {1, 0, false}, {0, -1, false}, {0, least, false}, {0, great, true},
		{-1, 0, false}, {-1, 1, false}, {-1, great, false}, {-2, -1, false}, {least, great, false}, {least, -1, false},
		{4, 5, true}, {5, 5, false}, {6, 5, false}, {great - 1, great, true}, {great, great, false}, {great, least, false},
	} {
		for _, other := range edges {
			if got := hist.Before(deed(0, other, x.to), deed(1, x.from, other)); got != x.want {
				t.Errorf("To %d, From %d, else %d: %v", x.to, x.from, other, got)
			}
		}
	}
}

// P14.1: Before is so whosever calls they are, whatever they are, and whatever came of them; one may be Before itself.
func TestBeforeWhatever(t *testing.T) {
	a := Deed{Who: -3, Call: Call{Kind: 9, End: -1, Value: top}, From: 8, To: 4}
	b := Deed{Who: -3, Call: Call{Kind: task.Get}, From: 5, To: -1, Reply: Reply{OK: true, Value: 3, Stamp: stamp.Stamp{Lo: 7}}}
	if !hist.Before(a, b) || hist.Before(b, a) || !hist.Before(a, a) || hist.Before(b, b) {
		t.Error("Before")
	}
}

// P14.1: Right: what may have been done so.
func TestRight(t *testing.T) {
	for _, list := range [][]Deed{
		nil, {},
		{deed(0, 0, -1)}, {deed(0, 0, least)}, {deed(0, 0, 1)}, {deed(0, 0, great)},
		{deed(0, 7, 8)}, {deed(0, great-1, great)}, {deed(0, great, -1)}, {deed(least, 0, 1)}, {deed(great, 3, 9)},
		{deed(0, 0, 1), deed(0, 2, 3)}, {deed(0, 0, 1), deed(0, 2, -1)}, {deed(0, 5, 9), deed(0, 10, 11), deed(0, 20, least)},
		{deed(0, 0, 3), deed(1, 1, 2)}, {deed(0, 0, 2), deed(1, 1, 3)}, {deed(0, 0, -1), deed(1, 1, -1), deed(-1, 2, -1)},
		{deed(0, 0, 4), deed(1, 1, -1), deed(0, 5, 6), deed(2, 7, -1), deed(0, 8, 9)},
		{deed(0, 0, -1), deed(1, 1, 2), deed(1, 3, 5), deed(2, 4, 6), deed(1, 7, -1), deed(2, 8, -2)},
		{deed(0, 0, 9), deed(1, 1, 8), deed(2, 2, 7), deed(3, 3, 6), deed(4, 4, 5)},
	} {
		if !hist.Right(list) {
			t.Errorf("%v isn't Right", list)
		}
	}
}

// P14.1: Right: each From is greater than the one ahead of it, the first one 0 or above.
func TestRightFrom(t *testing.T) {
	for _, list := range [][]Deed{
		{deed(0, -1, -1)}, {deed(0, -1, 5)}, {deed(0, least, -1)}, {deed(0, least, great)},
		{deed(0, -1, -1), deed(1, 0, -1)}, {deed(0, 0, -1), deed(1, -1, -1)},
		{deed(0, 4, -1), deed(1, 4, -1)}, {deed(0, 4, -1), deed(1, 3, -1)}, {deed(0, 0, -1), deed(1, 0, -1)},
		{deed(0, great, -1), deed(1, 0, -1)}, {deed(0, great, -1), deed(1, least, -1)}, {deed(0, great, -1), deed(1, great, -1)},
		{deed(0, 0, 1), deed(1, 5, 6), deed(2, 4, 7)}, {deed(0, 1, 2), deed(1, 5, 6), deed(2, 0, 7)},
		{deed(0, 5, 6), deed(0, 3, 4)}, {deed(0, 2, 3), deed(0, 0, 1)},
	} {
		if hist.Right(list) {
			t.Errorf("%v is Right", list)
		}
	}
}

// P14.1: Right: each To is below 0, or greater than its own From.
func TestRightTo(t *testing.T) {
	for _, d := range []Deed{
		deed(0, 5, 5), deed(0, 5, 4), deed(0, 5, 0), deed(0, 1, 0), deed(0, 0, 0), deed(0, great, great), deed(0, great, 0),
	} {
		if hist.Right([]Deed{d}) || hist.Right([]Deed{d, deed(1, great, -1)}) {
			t.Errorf("%v is Right", d)
		}
	}
	if hist.Right([]Deed{deed(0, 0, 3), deed(1, 2, 1)}) || hist.Right([]Deed{deed(0, 0, -1), deed(1, 2, 2), deed(2, 4, 5)}) {
		t.Error("what is behind the first one is all one")
	}
}

// P14.1: Right: each Call is, wherever it stands; whatever else is asked for, or told, is all one.
func TestRightCall(t *testing.T) {
	for _, call := range []Call{
		{Kind: -1}, {Kind: 2}, {Kind: least}, {Kind: great}, {End: -1}, {End: 2}, {End: least}, {Kind: task.Get, End: great},
	} {
		for i := range 3 {
			list := []Deed{deed(0, 0, 3), deed(1, 1, -1), deed(0, 4, 5)}
			list[i].Call = call
			if hist.Right(list) {
				t.Errorf("%v is Right", list)
			}
		}
	}
	list := []Deed{
		{From: 0, To: -1, Call: Call{End: word.Right, Value: top, Start: least}, Reply: Reply{OK: true, Stamp: stamp.Stamp{Lo: -1}}},
		{Who: 1, From: 2, To: 5, Call: Call{Kind: task.Get, End: word.Left, Value: 7, Start: great}, Reply: Reply{Value: top}},
		{Who: 2, From: 3, To: 4, Call: Call{Kind: task.Get, End: word.Right}, Reply: Reply{OK: true, Value: 9}},
	}
	if !hist.Right(list) {
		t.Errorf("%v isn't Right", list)
	}
}

// P14.1: Right: of calls of one thread each is Before the next one of it, whatever other threads' stand between.
func TestRightThread(t *testing.T) {
	for _, list := range [][]Deed{
		{deed(0, 0, -1), deed(0, 1, 2)}, {deed(0, 0, -1), deed(0, 1, -1)}, {deed(0, 0, least), deed(0, great, -1)},
		{deed(0, 0, 2), deed(0, 1, 3)}, {deed(0, 0, 3), deed(0, 1, 2)}, {deed(0, 0, 5), deed(0, 4, -1)},
		{deed(0, 0, great), deed(0, 4, -1)}, {deed(-1, 0, 2), deed(-1, 1, 3)}, {deed(great, 0, 2), deed(great, 1, 3)},
		{deed(0, 0, -1), deed(1, 1, 2), deed(0, 3, 4)}, {deed(0, 0, 4), deed(1, 1, 2), deed(0, 3, 5)},
		{deed(0, 0, 1), deed(1, 2, 3), deed(0, 4, 6), deed(0, 5, 7)}, {deed(0, 0, 1), deed(0, 2, -1), deed(1, 3, 4), deed(0, 5, 6)},
		{deed(7, 0, 1), deed(3, 2, -1), deed(7, 3, 4), deed(3, 5, 6)},
	} {
		if hist.Right(list) {
			t.Errorf("%v is Right", list)
		}
		for i := range list {
			list[i].Who = i
		}
		if !hist.Right(list) {
			t.Errorf("%v, each of a thread of its own, isn't Right", list)
		}
	}
}

// P14.1: Right: no number from 0 on is From or To of two, or twice; of those below 0 one may be.
func TestRightMoves(t *testing.T) {
	for _, list := range [][]Deed{
		{deed(0, 0, 2), deed(1, 1, 2)}, {deed(0, 0, great), deed(1, 1, great)}, {deed(0, 0, 9), deed(1, 1, 2), deed(2, 3, 9)},
		{deed(0, 0, 1), deed(1, 1, 2)}, {deed(0, 0, 1), deed(1, 1, -1)}, {deed(0, 0, 1), deed(0, 1, 2)}, {deed(0, 0, great), deed(1, great, -1)},
		{deed(0, 0, 6), deed(1, 1, 2), deed(1, 3, 4), deed(2, 6, 7)}, {deed(0, 0, 9), deed(1, 1, 6), deed(2, 3, 4), deed(3, 6, -1)},
	} {
		if hist.Right(list) {
			t.Errorf("%v is Right", list)
		}
	}
	if !hist.Right([]Deed{deed(0, 0, -1), deed(1, 1, -1), deed(2, 2, -7), deed(3, 3, -7)}) {
		t.Error("a number below 0 is none of a move")
	}
}

// P14.1: Over: those whose To is 0 or above, in their order, as they are, whether the list is Right or not.
func TestOver(t *testing.T) {
	odd := Deed{Who: -2, Call: Call{Kind: 7, Value: top}, From: least, To: 0, Reply: Reply{Value: 3}}
	for _, x := range []struct{ list, want []Deed }{
		{nil, nil}, {[]Deed{}, nil}, {[]Deed{deed(0, 0, -1)}, nil}, {[]Deed{deed(0, 0, least), deed(1, 2, -2)}, nil},
		{[]Deed{deed(0, 0, 0)}, []Deed{deed(0, 0, 0)}}, {[]Deed{deed(0, -1, great)}, []Deed{deed(0, -1, great)}},
		{[]Deed{deed(0, 0, 9), deed(1, 1, -1), deed(2, 2, 5)}, []Deed{deed(0, 0, 9), deed(2, 2, 5)}},
		{[]Deed{deed(0, 0, -1), deed(3, 3, 4), odd, deed(3, 3, 4)}, []Deed{deed(3, 3, 4), odd, deed(3, 3, 4)}},
		{[]Deed{put(1, true), get(2, false)}, []Deed{put(1, true), get(2, false)}},
	} {
		if got := hist.Over(x.list); !slices.Equal(got, x.want) {
			t.Errorf("Over of %v: %v, want %v", x.list, got, x.want)
		}
	}
}

// P14.2: Most: what is under way at a From, that From and a To that is the same besides.
func TestMost(t *testing.T) {
	for _, x := range []struct {
		list []Deed
		want int
	}{
		{nil, 0}, {[]Deed{}, 0}, {[]Deed{deed(0, 0, -1)}, 1}, {[]Deed{deed(0, 0, 4)}, 1}, {[]Deed{deed(0, great, great)}, 1},
		{[]Deed{deed(0, 0, 4), deed(1, 5, 9)}, 1}, {[]Deed{deed(0, 0, 5), deed(1, 5, 9)}, 2}, {[]Deed{deed(0, 0, 6), deed(1, 5, 9)}, 2},
		{[]Deed{deed(0, 0, -1), deed(1, 5, -1)}, 2}, {[]Deed{deed(0, 0, least), deed(1, great, 9)}, 1},
		{[]Deed{deed(0, 0, great), deed(1, great, -1)}, 2}, {[]Deed{deed(0, 0, great-1), deed(1, great, -1)}, 1},
		{[]Deed{deed(0, 0, 9), deed(1, 1, 2), deed(2, 3, 4), deed(3, 5, 6)}, 2},
		{[]Deed{deed(0, 0, 9), deed(1, 1, 5), deed(2, 3, 4), deed(3, 6, 7)}, 3},
		{[]Deed{deed(0, 0, -1), deed(0, 1, -1), deed(0, 2, -1), deed(0, 3, 4), deed(0, 5, 6)}, 4},
	} {
		for range 2 { // the order of the list is all one
			if got := hist.Most(x.list); got != x.want {
				t.Errorf("Most of %v: %d, want %d", x.list, got, x.want)
			}
			slices.Reverse(x.list)
		}
	}
}

// P14.2: Most, of deeds that can't be: one that is Before itself isn't one of those at its own From, nor behind it;
// Froms may be below 0, and the same.
func TestMostOdd(t *testing.T) {
	for _, x := range []struct {
		list []Deed
		want int
	}{
		{[]Deed{deed(0, 5, 4)}, 0}, {[]Deed{deed(0, 5, 0), deed(1, 7, 6)}, 0}, {[]Deed{deed(0, 5, 5)}, 1}, {[]Deed{deed(0, great, 0)}, 0},
		{[]Deed{deed(0, 5, 0), deed(1, 5, 9)}, 1}, {[]Deed{deed(0, 5, 0), deed(1, 3, 9)}, 1}, {[]Deed{deed(0, 5, 0), deed(1, 7, 9)}, 1},
		{[]Deed{deed(0, 3, 5), deed(1, 4, 4), deed(2, 5, 1)}, 2}, {[]Deed{deed(0, 3, 5), deed(1, 4, 5), deed(2, 5, 1)}, 2},
		{[]Deed{deed(0, -5, 0), deed(1, -5, -1), deed(2, -4, 3)}, 3}, {[]Deed{deed(0, least, 0), deed(1, 0, 1), deed(2, 1, 2)}, 2},
		{[]Deed{deed(0, least, least), deed(1, great, great)}, 2}, {[]Deed{deed(0, 4, 9), deed(0, 4, 9), deed(0, 4, 9)}, 3},
	} {
		if got := hist.Most(x.list); got != x.want {
			t.Errorf("Most of %v: %d, want %d", x.list, got, x.want)
		}
	}
}

// P14.2: Tally: Puts that are OK by what was asked for, less Gets that are OK by what was told; none that are even.
func TestTally(t *testing.T) {
	odd := func(kind task.Kind) Deed {
		return Deed{Call: Call{Kind: kind, Value: 8}, Reply: Reply{OK: true, Value: 9}}
	}
	for _, x := range []struct {
		list []Deed
		want map[uint64]int
	}{
		{nil, nil}, {[]Deed{}, nil}, {[]Deed{put(5, false), get(5, false), get(6, false)}, nil},
		{[]Deed{put(5, true)}, map[uint64]int{5: 1}}, {[]Deed{get(5, true)}, map[uint64]int{5: -1}},
		{[]Deed{put(0, true), put(top, true), put(top, true)}, map[uint64]int{0: 1, top: 2}}, {[]Deed{get(0, true)}, map[uint64]int{0: -1}},
		{[]Deed{put(5, true), get(5, true)}, nil}, {[]Deed{get(5, true), put(5, true)}, nil},
		{[]Deed{put(5, true), get(5, true), put(5, true)}, map[uint64]int{5: 1}},
		{[]Deed{put(5, true), get(5, true), get(5, true), get(5, true)}, map[uint64]int{5: -2}},
		{[]Deed{put(1, true), put(2, true), put(3, true), get(2, true), get(4, true)}, map[uint64]int{1: 1, 3: 1, 4: -1}},
		{[]Deed{put(5, true), put(5, false), get(5, false)}, map[uint64]int{5: 1}},
		{[]Deed{odd(task.Put)}, map[uint64]int{8: 1}}, {[]Deed{odd(task.Get)}, map[uint64]int{9: -1}},
		{[]Deed{odd(2), odd(-1), odd(least), odd(great)}, map[uint64]int{9: -4}},
	} {
		for _, to := range []int{least, -1, 0, 7, great} { // whether it is over is all one
			for i := range x.list {
				x.list[i].To = to
			}
			if got := hist.Tally(x.list); !maps.Equal(got, x.want) {
				t.Errorf("Tally of %v: %v, want %v", x.list, got, x.want)
			}
		}
	}
}

// P14.1, P14.2: of as many calls as a script may have moves, under way all at once, all is told.
func TestMany(t *testing.T) {
	const count = 1 << 16
	var list []Deed
	for i := range count {
		list = append(list, Deed{Who: i, Call: Call{Value: uint64(i)}, From: i, To: 2*count - i, Reply: Reply{OK: true}})
	}
	if !hist.Right(list) || hist.Most(list) != count || len(hist.Over(list)) != count || len(hist.Tally(list)) != count {
		t.Error("many")
	}
	list[count-1].To = list[0].To
	if hist.Right(list) {
		t.Error("two are over at one move")
	}
}

// Rule 3: what is handed in isn't changed, an answer is new memory, and no later call turns it.
func TestNewMemory(t *testing.T) {
	list := []Deed{put(5, true), deed(1, 3, -1), get(6, true), put(6, true), deed(2, 1, 0)}
	was := slices.Clone(list)
	a, b, x, y := hist.Over(list), hist.Over(list), hist.Tally(list), hist.Tally(list)
	hist.Right(list)
	hist.Most(list)
	a[0].Who, x[5], x[7] = 9, 9, 9
	_ = append(a[:1], deed(9, 9, 9))
	if !slices.Equal(list, was) {
		t.Errorf("the list is %v, was %v", list, was)
	}
	if !slices.Equal(b, []Deed{was[0], was[2], was[3], was[4]}) || !maps.Equal(y, map[uint64]int{5: 1}) {
		t.Errorf("other answers are %v, %v", b, y)
	}
	hist.Tally(nil)[1]++ // an answer may be written into, though there is nothing in it
}
