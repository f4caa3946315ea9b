package bound_test

import (
	"math"
	"slices"
	"testing"

	"stackyard/api"
	"stackyard/bound"
	"stackyard/lay"
	"stackyard/put"
)

type C = lay.Conf

// confs are Confs of all edges, and some between.
func confs() []C {
	var list []C
	for _, threads := range []int{1, 2, 3, 7, api.MaxThreads} {
		for _, slots := range []int{1, 2, 5, api.MaxSlots} {
			for source := lay.Count; source <= lay.Wide; source++ {
				for _, delay := range []int{0, 3, api.MaxDelay} {
					list = append(list, C{Threads: threads, Slots: slots, Source: source, Delay: delay})
				}
			}
		}
	}
	return list
}

// P16.1: the chapter's example.
func TestExample(t *testing.T) {
	c := C{Threads: 1, Slots: 1}
	if bound.Put(c) != 5 || bound.Get(c, 0) != 14 || bound.Window(c) != 29 {
		t.Errorf("Put %d, Get %d, Window %d", bound.Put(c), bound.Get(c, 0), bound.Window(c))
	}
}

// P16.1: each by numbers that were worked out by hand.
func TestNumbers(t *testing.T) {
	for _, x := range []struct {
		c                            C
		put, get, getFive, win, room int
	}{
		{C{Threads: 1, Slots: 1}, 5, 14, 84, 29, 1},
		{C{Threads: 1, Slots: 1, Source: lay.Wide, Delay: 100}, 106, 14, 84, 107, 1},
		{C{Threads: 1, Slots: 1, Source: lay.Wide, Delay: 22}, 28, 14, 84, 29, 1},
		{C{Threads: 1, Slots: 1, Source: lay.Wide, Delay: 23}, 29, 14, 84, 30, 1},
		{C{Threads: 2, Slots: 3}, 12, 34, 204, 205, 3},
		{C{Threads: 3, Slots: 2, Source: lay.Stutter}, 14, 34, 204, 409, 2},
		{C{Threads: 2, Slots: 1, Source: lay.Swap}, 9, 18, 108, 109, 1},
		{C{Threads: 2, Slots: 1, Source: lay.Clock}, 6, 18, 108, 109, 1},
		{C{Threads: 64, Slots: 64, Source: lay.Stutter}, 4227, 16394, 98364, 68199041, 64},
		{C{Threads: 64, Slots: 64, Source: lay.Wide, Delay: 100}, 4264, 16394, 98364, 68199041, 64},
	} {
		if bound.Put(x.c) != x.put || bound.Get(x.c, 0) != x.get || bound.Get(x.c, 5) != x.getFive || bound.Window(x.c) != x.win || bound.Room(x.c) != x.room {
			t.Errorf("%v: Put %d, Get %d and %d, Window %d, Room %d", x.c, bound.Put(x.c), bound.Get(x.c, 0), bound.Get(x.c, 5), bound.Window(x.c), bound.Room(x.c))
		}
	}
}

// P16.1: of whatever Conf each is as the chapter's words say.
func TestWords(t *testing.T) {
	for _, c := range confs() {
		once := 4*c.Threads*c.Slots + 10
		if bound.Put(c) != put.Most(c) || bound.Room(c) != c.Slots {
			t.Errorf("%v: Put %d, Room %d", c, bound.Put(c), bound.Room(c))
		}
		for _, turns := range []int{0, 1, 2, 63, 1000, math.MaxInt32} {
			if got := bound.Get(c, turns); got != (turns+1)*once {
				t.Errorf("%v: Get of %d turns %d", c, turns, got)
			}
		}
		if got := bound.Window(c); got != c.Threads*max(put.Most(c), (c.Threads+1)*once)+1 {
			t.Errorf("%v: Window %d", c, got)
		}
	}
}

// P16.1: turns below 0 count as 0.
func TestGetBelow(t *testing.T) {
	for _, c := range confs() {
		for _, turns := range []int{-1, -2, -1000, math.MinInt} {
			if bound.Get(c, turns) != bound.Get(c, 0) {
				t.Errorf("%v: Get of %d turns %d", c, turns, bound.Get(c, turns))
			}
		}
	}
}

// P16.1: Gaps: the first of ends and 1, the others less those ahead of them, all less the last one less 1; all, if
// there are no ends.
func TestGaps(t *testing.T) {
	for _, x := range []struct {
		ends []int
		all  int
		want int
	}{
		{nil, 0, 0}, {nil, 4, 4}, {[]int{}, 4, 4}, {nil, -7, -7}, {nil, math.MaxInt, math.MaxInt}, {nil, math.MinInt, math.MinInt},
		{[]int{0}, 1, 1}, {[]int{0}, 2, 1}, {[]int{0}, 3, 2}, {[]int{3}, 10, 6}, {[]int{6}, 10, 7}, {[]int{9}, 10, 10},
		{[]int{2, 9}, 12, 7}, {[]int{8, 9}, 12, 9}, {[]int{0, 1}, 12, 10}, {[]int{0, 1, 2, 3}, 4, 1}, {[]int{0, 4, 9, 13}, 14, 5},
		{[]int{2, 2, 2}, 3, 3}, {[]int{0, 1}, 2, 1}, {[]int{5, 3}, 4, 6}, {[]int{5, 3, 9}, 4, 6}, {[]int{5, -3, 9}, 4, 12}, {[]int{-5}, -10, -4}, {[]int{-5}, -4, 0},
		{[]int{-9, -20}, -30, -8}, {[]int{math.MaxInt - 1}, math.MaxInt, math.MaxInt}, {[]int{0, math.MaxInt}, math.MaxInt, math.MaxInt}, {[]int{math.MinInt}, -1, math.MaxInt - 1},
	} {
		was := slices.Clone(x.ends)
		if got := bound.Gaps(x.ends, x.all); got != x.want {
			t.Errorf("Gaps of %v, %d: %d, want %d", x.ends, x.all, got, x.want)
		}
		if !slices.Equal(x.ends, was) {
			t.Errorf("%v was %v", x.ends, was)
		}
	}
}
