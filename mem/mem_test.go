package mem_test

import (
	"math"
	"slices"
	"testing"

	"stackyard/mem"
)

type E = mem.Event

const top = math.MaxUint64

// missing are cells that there aren't, of three.
var missing = []int{-1, 3, 4, mem.MaxCells, math.MinInt, math.MaxInt}

// holds tells of cells and a log that aren't as they should be.
func holds(t *testing.T, m *mem.Mem, cells []uint64, log []E) {
	t.Helper()
	if m.Len() != len(cells) {
		t.Fatalf("Len is %d, want %d", m.Len(), len(cells))
	}
	for i, x := range cells {
		if got := m.Peek(i); got != x {
			t.Errorf("cell %d is %d, want %d", i, got, x)
		}
	}
	if got := m.Log(); !slices.Equal(got, log) {
		t.Errorf("noted is %v\nwant     %v", got, log)
	}
	if m.Count() != len(log) {
		t.Errorf("Count is %d, want %d", m.Count(), len(log))
	}
}

// P3.1: the numbers of the ways, and how many cells there may be.
func TestConstants(t *testing.T) {
	if mem.Load != 0 || mem.Store != 1 || mem.Swap != 2 || mem.Add != 3 || mem.MaxCells != 65536 {
		t.Error("constants")
	}
}

// P3.1: how many cells New makes; all are nought, and nothing is noted.
func TestNew(t *testing.T) {
	for _, x := range []struct{ n, want int }{
		{0, 0}, {1, 1}, {2, 2}, {1000, 1000},
		{mem.MaxCells - 1, mem.MaxCells - 1},
		{mem.MaxCells, mem.MaxCells},
		{mem.MaxCells + 1, mem.MaxCells},
		{math.MaxInt, mem.MaxCells},
		{-1, 0},
		{math.MinInt, 0},
	} {
		holds(t, mem.New(x.n), make([]uint64, x.want), nil)
	}
}

// P3.1: the last cell of all that there may be is one; the one behind it isn't.
func TestLastCell(t *testing.T) {
	m := mem.New(mem.MaxCells + 1)
	m.Store(1, mem.MaxCells, 5)
	if m.Count() != 0 || m.Peek(mem.MaxCells) != 0 {
		t.Error("a cell behind the last one")
	}
	m.Store(1, mem.MaxCells-1, 5)
	if m.Count() != 1 || m.Load(1, mem.MaxCells-1) != 5 {
		t.Error("the last cell")
	}
}

// P3.1: Load tells what the cell is, and lets it be.
func TestLoad(t *testing.T) {
	m := mem.New(2)
	if m.Load(3, 1) != 0 {
		t.Error("a cell that was nought")
	}
	m.Store(4, 1, top)
	if m.Load(-5, 1) != top || m.Load(6, 0) != 0 {
		t.Error("Load")
	}
	holds(t, m, []uint64{0, top}, []E{
		{3, mem.Load, 1, 0, 0, true},
		{4, mem.Store, 1, 0, top, true},
		{-5, mem.Load, 1, top, top, true},
		{6, mem.Load, 0, 0, 0, true},
	})
}

// P3.1: Store, of what the cell is already too.
func TestStore(t *testing.T) {
	m := mem.New(2)
	m.Store(0, 0, 8)
	m.Store(1, 0, 8)
	m.Store(math.MinInt, 0, 9)
	m.Store(math.MaxInt, 1, 0)
	holds(t, m, []uint64{9, 0}, []E{
		{0, mem.Store, 0, 0, 8, true},
		{1, mem.Store, 0, 8, 8, true},
		{math.MinInt, mem.Store, 0, 8, 9, true},
		{math.MaxInt, mem.Store, 1, 0, 0, true},
	})
}

// P3.1: Swap, of a cell that is as was said and of one that isn't, for the same number too.
func TestSwap(t *testing.T) {
	m := mem.New(2)
	for _, x := range []struct {
		old, next uint64
		want      bool
	}{
		{0, 5, true},
		{5, 7, true},
		{5, 9, false},
		{9, 7, false},
		{8, 8, false},
		{7, 7, true},
		{7, top, true},
		{0, 1, false},
		{top, 0, true},
	} {
		if got := m.Swap(2, 1, x.old, x.next); got != x.want {
			t.Errorf("Swap %d for %d: %v", x.old, x.next, got)
		}
	}
	holds(t, m, []uint64{0, 0}, []E{
		{2, mem.Swap, 1, 0, 5, true},
		{2, mem.Swap, 1, 5, 7, true},
		{2, mem.Swap, 1, 7, 7, false},
		{2, mem.Swap, 1, 7, 7, false},
		{2, mem.Swap, 1, 7, 7, false},
		{2, mem.Swap, 1, 7, 7, true},
		{2, mem.Swap, 1, 7, top, true},
		{2, mem.Swap, 1, top, top, false},
		{2, mem.Swap, 1, top, 0, true},
	})
}

// P3.1: Add tells what the cell was; behind the greatest number comes 0.
func TestAdd(t *testing.T) {
	m := mem.New(1)
	for _, x := range []struct{ x, want uint64 }{
		{5, 0}, {0, 5}, {top - 5, 5}, {1, top}, {top, 0}, {top, top},
	} {
		if got := m.Add(7, 0, x.x); got != x.want {
			t.Errorf("Add %d: %d, want %d", x.x, got, x.want)
		}
	}
	holds(t, m, []uint64{top - 1}, []E{
		{7, mem.Add, 0, 0, 5, true},
		{7, mem.Add, 0, 5, 5, true},
		{7, mem.Add, 0, 5, top, true},
		{7, mem.Add, 0, top, 0, true},
		{7, mem.Add, 0, 0, top, true},
		{7, mem.Add, 0, top, top - 1, true},
	})
}

// P3.1: the chapter's example.
func TestExample(t *testing.T) {
	m := mem.New(1)
	if m.Add(0, 0, 5) != 0 || !m.Swap(0, 0, 5, 7) || m.Swap(0, 0, 5, 9) {
		t.Error("what they tell")
	}
	holds(t, m, []uint64{7}, []E{
		{0, mem.Add, 0, 0, 5, true},
		{0, mem.Swap, 0, 5, 7, true},
		{0, mem.Swap, 0, 7, 7, false},
	})
}

// P3.1: of a cell that there isn't nothing is told, turned or noted.
func TestMissingCells(t *testing.T) {
	m := mem.New(3)
	for i := range 3 {
		m.Store(0, i, 6)
	}
	was := m.Log()
	for _, cell := range missing {
		if m.Load(1, cell) != 0 || m.Swap(1, cell, 0, 5) || m.Swap(1, cell, 6, 5) || m.Add(1, cell, 5) != 0 || m.Peek(cell) != 0 {
			t.Errorf("cell %d tells something", cell)
		}
		m.Store(1, cell, 5)
		holds(t, m, []uint64{6, 6, 6}, was)
	}
	none := mem.New(0)
	if none.Load(1, 0) != 0 || none.Swap(1, 0, 0, 0) || none.Add(1, 0, 1) != 0 || none.Peek(0) != 0 {
		t.Error("the first cell of none")
	}
	none.Store(1, 0, 1)
	holds(t, none, nil, nil)
}

// P3.1: Peek isn't noted; two Mems have nothing in common.
func TestPeek(t *testing.T) {
	m, o := mem.New(1), mem.New(1)
	m.Store(1, 0, 4)
	for range 3 {
		if m.Peek(0) != 4 || o.Peek(0) != 0 {
			t.Error("Peek")
		}
	}
	if m.Count() != 1 || o.Count() != 0 {
		t.Error("Peek was noted")
	}
}

// P3.2: Log is new each time: who writes into it turns no other one, nor does what comes later.
func TestLogIsNew(t *testing.T) {
	m := mem.New(1)
	m.Add(1, 0, 5)
	first := m.Log()
	first[0].Old = 99
	first = append(first, E{Who: 77})
	m.Add(2, 0, 5)
	second := m.Log()
	second[1].Who = 88
	holds(t, m, []uint64{10}, []E{
		{1, mem.Add, 0, 0, 5, true},
		{2, mem.Add, 0, 5, 10, true},
	})
	if len(first) != 2 || first[1].Who != 77 {
		t.Error("a list was turned that was handed out")
	}
}

// busy is three cells of which much was done, by a rule of numbers.
func busy(steps int) *mem.Mem {
	m := mem.New(3)
	x := uint64(1)
	for i := range steps {
		x = x*6364136223846793005 + 1442695040888963407
		who, cell, n := int(x>>60)-4, int(x>>50)%3, x>>40%4
		switch i % 5 {
		case 0:
			m.Load(who, cell)
		case 1:
			m.Store(who, cell, n)
		case 2:
			m.Swap(who, cell, n, x)
		case 3:
			m.Swap(who, cell, m.Peek(cell), n)
		case 4:
			m.Add(who, cell, x)
		}
	}
	return m
}

// P3.2: Back of a Log is such cells, with that Log; of its beginning the cells as they were then.
func TestBackOfALog(t *testing.T) {
	for steps := range 60 {
		m := busy(steps)
		list := m.Log()
		back, ok := mem.Back(3, list)
		if !ok {
			t.Fatalf("Back of %v", list)
		}
		holds(t, back, []uint64{m.Peek(0), m.Peek(1), m.Peek(2)}, list)
	}
	failed := slices.ContainsFunc(busy(60).Log(), func(e E) bool { return e.Op == mem.Swap && !e.OK })
	if !failed {
		t.Error("no Swap told false")
	}
}

// P3.2: what Back answers is cells as any others: it goes on, apart from the list.
func TestBackGoesOn(t *testing.T) {
	list := busy(20).Log()
	was := slices.Clone(list)
	m, _ := mem.Back(3, list)
	m.Store(9, 0, 41)
	list[0].Who = 1000
	if got := m.Log(); got[0] != was[0] || got[20] != (E{9, mem.Store, 0, got[20].Old, 41, true}) || m.Peek(0) != 41 {
		t.Error("Back keeps its list, or doesn't go on")
	}
	list[0] = was[0]
	if !slices.Equal(list, was) {
		t.Error("Back has changed its list")
	}
}

// P3.2: how many cells Back has, of no Events too.
func TestBackCells(t *testing.T) {
	for _, x := range []struct{ n, want int }{
		{-1, 0}, {0, 0}, {3, 3}, {mem.MaxCells, mem.MaxCells}, {mem.MaxCells + 1, mem.MaxCells}, {math.MinInt, 0}, {math.MaxInt, mem.MaxCells},
	} {
		m, ok := mem.Back(x.n, nil)
		if !ok {
			t.Errorf("Back of %d cells and no Events", x.n)
		}
		holds(t, m, make([]uint64, x.want), nil)
	}
}

// P3.2: Back of single Events on a cell that was stored 5: whether it agrees, what the cell is, and what is noted.
func TestBackOfOne(t *testing.T) {
	load, store, swap, add := mem.Load, mem.Store, mem.Swap, mem.Add
	for _, x := range []struct {
		e    E
		want bool
		cell uint64
		note E
	}{
		{E{2, load, 0, 5, 5, true}, true, 5, E{2, load, 0, 5, 5, true}},
		{E{2, load, 0, 4, 4, true}, false, 5, E{2, load, 0, 5, 5, true}},
		{E{2, load, 0, 5, 6, true}, false, 5, E{2, load, 0, 5, 5, true}},
		{E{2, load, 0, 4, 5, true}, false, 5, E{2, load, 0, 5, 5, true}},
		{E{2, load, 0, 5, 5, false}, false, 5, E{2, load, 0, 5, 5, true}},

		{E{2, store, 0, 5, 9, true}, true, 9, E{2, store, 0, 5, 9, true}},
		{E{2, store, 0, 5, 5, true}, true, 5, E{2, store, 0, 5, 5, true}},
		{E{2, store, 0, 4, 9, true}, false, 9, E{2, store, 0, 5, 9, true}},
		{E{2, store, 0, 5, 9, false}, false, 9, E{2, store, 0, 5, 9, true}},

		{E{2, swap, 0, 5, 9, true}, true, 9, E{2, swap, 0, 5, 9, true}},
		{E{2, swap, 0, 5, 5, true}, true, 5, E{2, swap, 0, 5, 5, true}},
		{E{2, swap, 0, 4, 9, true}, false, 5, E{2, swap, 0, 5, 5, false}},
		{E{2, swap, 0, 4, 4, true}, false, 5, E{2, swap, 0, 5, 5, false}},
		{E{2, swap, 0, 4, 5, true}, false, 5, E{2, swap, 0, 5, 5, false}},

		{E{2, swap, 0, 5, 5, false}, true, 5, E{2, swap, 0, 5, 5, false}},
		{E{2, swap, 0, 4, 4, false}, false, 5, E{2, swap, 0, 5, 5, false}},
		{E{2, swap, 0, 5, 9, false}, false, 5, E{2, swap, 0, 5, 5, false}},
		{E{2, swap, 0, 9, 5, false}, false, 5, E{2, swap, 0, 5, 5, false}},
		{E{2, swap, 0, top - 5, top - 5, false}, false, 5, E{2, swap, 0, 5, 5, false}},

		{E{2, add, 0, 5, 9, true}, true, 9, E{2, add, 0, 5, 9, true}},
		{E{2, add, 0, 5, 5, true}, true, 5, E{2, add, 0, 5, 5, true}},
		{E{2, add, 0, 5, 3, true}, true, 3, E{2, add, 0, 5, 3, true}},
		{E{2, add, 0, 4, 9, true}, false, 10, E{2, add, 0, 5, 10, true}},
		{E{2, add, 0, 9, 9, true}, false, 5, E{2, add, 0, 5, 5, true}},
		{E{2, add, 0, 5, 9, false}, false, 9, E{2, add, 0, 5, 9, true}},
	} {
		first, last := E{1, store, 0, 0, 5, true}, E{3, load, 0, x.cell, x.cell, true}
		m, ok := mem.Back(1, []E{first, x.e})
		if ok != x.want {
			t.Errorf("Back of %v: %v", x.e, ok)
		}
		holds(t, m, []uint64{x.cell}, []E{first, x.note})
		// Nothing is done behind the first one that doesn't agree.
		m, ok = mem.Back(1, []E{first, x.e, last})
		if ok != x.want || m.Count() == 3 != x.want {
			t.Errorf("Back of %v, and one behind it: %v, %d noted", x.e, ok, m.Count())
		}
	}
}

// P3.2: an Event of a cell that there isn't, or of no Op, ends Back, and isn't noted.
func TestBackOfNone(t *testing.T) {
	first, last := E{1, mem.Store, 2, 0, 5, true}, E{3, mem.Store, 2, 5, 6, true}
	bad := []E{
		{2, -1, 2, 5, 5, true},
		{2, 4, 2, 5, 5, true},
		{2, math.MinInt, 2, 5, 5, false},
		{2, math.MaxInt, 2, 5, 9, true},
		{2, 4, 3, 0, 0, false},
	}
	for _, cell := range missing {
		for op := mem.Load; op <= mem.Add; op++ {
			bad = append(bad, E{2, op, cell, 0, 0, true}, E{2, op, cell, 0, 0, false})
		}
	}
	for _, e := range bad {
		m, ok := mem.Back(3, []E{first, e, last})
		if ok {
			t.Errorf("Back of %v", e)
		}
		holds(t, m, []uint64{0, 0, 5}, []E{first})
	}
	if m, ok := mem.Back(0, []E{{0, mem.Load, 0, 0, 0, true}}); ok || m == nil || m.Len() != 0 || m.Count() != 0 {
		t.Error("Back of an Event, without cells")
	}
}
