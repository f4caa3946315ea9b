package lay_test

import (
	"math"
	"testing"

	"stackyard/api"
	"stackyard/lay"
	"stackyard/mem"
)

type C = lay.Conf

// rights are Confs at the bounds, and between them.
func rights() []C {
	var list []C
	for _, threads := range []int{1, 2, 7, 63, 64} {
		for _, slots := range []int{1, 3, 8, 63, 64} {
			for _, source := range []lay.Source{lay.Count, lay.Stutter, lay.Swap, lay.Clock, lay.Wide} {
				for _, delay := range []int{0, 1, 99, 100} {
					list = append(list, C{Threads: threads, Slots: slots, Source: source, Delay: delay})
				}
			}
		}
	}
	return list
}

// P4.1: the numbers of the sources and kinds.
func TestConstants(t *testing.T) {
	if lay.Count != 0 || lay.Stutter != 1 || lay.Swap != 2 || lay.Clock != 3 || lay.Wide != 4 {
		t.Error("sources")
	}
	if lay.None != 0 || lay.OfWord != 1 || lay.OfValue != 2 || lay.OfHazard != 3 || lay.OfNumber != 4 {
		t.Error("kinds")
	}
}

// P4.1: which Confs are Right: Source and Delay have their bounds apart from each other.
func TestRight(t *testing.T) {
	for _, c := range rights() {
		if !c.Right() {
			t.Errorf("%v isn't Right", c)
		}
	}
	for _, x := range []int{math.MinInt, -64, -1, 0, 101, math.MaxInt} {
		bad := []C{
			{Threads: x, Slots: 1},
			{Threads: 1, Slots: x},
			{Threads: x, Slots: x},
		}
		if x != 0 {
			bad = append(bad, C{Threads: 1, Slots: 1, Source: lay.Source(x)}, C{Threads: 1, Slots: 1, Delay: x}, C{Threads: 1, Slots: 1, Source: lay.Wide, Delay: x})
		}
		for _, c := range bad {
			if c.Right() {
				t.Errorf("%v is Right", c)
			}
		}
	}
	for _, c := range []C{
		{},
		{Threads: 65, Slots: 1},
		{Threads: 1, Slots: 65},
		{Threads: 64, Slots: 64, Source: 5, Delay: 100},
		{Threads: 64, Slots: 64, Source: lay.Wide, Delay: 101},
	} {
		if c.Right() {
			t.Errorf("%v is Right", c)
		}
	}
	if !(C{Threads: api.MaxThreads, Slots: api.MaxSlots, Source: lay.Wide, Delay: api.MaxDelay}).Right() {
		t.Error("the limits aren't Right")
	}
}

// P4.1: each thread's places are side by side, thread by thread; behind the last one there is none.
func TestPlaces(t *testing.T) {
	for _, c := range rights() {
		slot := 0
		for thread := range c.Threads {
			if got := c.First(thread); got != slot {
				t.Fatalf("%v First of %d: %d, want %d", c, thread, got, slot)
			}
			for range c.Slots {
				if got := c.Owner(slot); got != thread {
					t.Fatalf("%v Owner of %d: %d, want %d", c, slot, got, thread)
				}
				slot++
			}
		}
		if c.All() != slot {
			t.Fatalf("%v All: %d, want %d", c, c.All(), slot)
		}
		for _, none := range []int{-1, -c.Slots, slot, slot + 1, c.Cells(), math.MinInt, math.MaxInt} {
			if got := c.Owner(none); got != -1 {
				t.Fatalf("%v Owner of %d: %d", c, none, got)
			}
		}
	}
}

// P4.2: the cells, one behind the other: Words, Values, Hazards, Numbers; what each is for; none behind them.
func TestCells(t *testing.T) {
	for _, c := range rights() {
		cell := 0
		next := func(kind lay.Kind, of, got int) {
			t.Helper()
			if got != cell {
				t.Fatalf("%v kind %d of %d: cell %d, want %d", c, kind, of, got, cell)
			}
			if k, n := c.Kind(cell); k != kind || n != of {
				t.Fatalf("%v cell %d: kind %d of %d, want %d of %d", c, cell, k, n, kind, of)
			}
			cell++
		}
		for slot := range c.All() {
			next(lay.OfWord, slot, c.Word(slot))
		}
		for slot := range c.All() {
			next(lay.OfValue, slot, c.Value(slot))
		}
		for thread := range c.Threads {
			next(lay.OfHazard, thread, c.Hazard(thread))
		}
		for thread := range c.Threads {
			next(lay.OfNumber, thread, c.Number(thread))
		}
		if c.Cells() != cell || cell > mem.MaxCells {
			t.Fatalf("%v Cells: %d, want %d", c, c.Cells(), cell)
		}
		for _, none := range []int{-1, -cell, cell, cell + 1, math.MinInt, math.MaxInt} {
			if k, n := c.Kind(none); k != lay.None || n != 0 {
				t.Fatalf("%v cell %d: kind %d of %d", c, none, k, n)
			}
		}
	}
}

// P4.2: the chapter's example, and that neither Source nor Delay turns it.
func TestExample(t *testing.T) {
	for _, c := range []C{
		{Threads: 2, Slots: 3},
		{Threads: 2, Slots: 3, Source: lay.Wide, Delay: 100},
	} {
		if c.Cells() != 16 || c.Value(4) != 10 || c.Hazard(1) != 13 {
			t.Errorf("%v: %d cells; %d, %d", c, c.Cells(), c.Value(4), c.Hazard(1))
		}
	}
}
