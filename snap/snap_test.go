package snap_test

import (
	"math"
	"slices"
	"testing"

	"stackyard/lay"
	"stackyard/mem"
	"stackyard/snap"
	"stackyard/tick"
)

type (
	C = lay.Conf
	E = mem.Event
)

const top = math.MaxUint64

// stranger is none of the threads: who turns cells ahead of the steps that are held.
const stranger = -9

// cells are those of c, with these Words, place by place.
func cells(c C, words ...uint64) *mem.Mem {
	m := mem.New(c.Cells())
	for i, x := range words {
		m.Store(stranger, c.Word(i), x)
	}
	return m
}

// words are the Words of all places.
func words(c C, m *mem.Mem) []uint64 {
	var list []uint64
	for i := range c.All() {
		list = append(list, m.Peek(c.Word(i)))
	}
	return list
}

func load(who, cell int, x uint64) E {
	return E{Who: who, Op: mem.Load, Cell: cell, Old: x, New: x, OK: true}
}

// noted is what the threads did.
func noted(m *mem.Mem) []E {
	return slices.DeleteFunc(m.Log(), func(e E) bool { return e.Who == stranger })
}

// loaded is the places whose Words were Loaded, in order; it tells of whatever else was done, or by another one than who.
func loaded(t *testing.T, c C, who int, m *mem.Mem) []int {
	t.Helper()
	var list []int
	for _, e := range noted(m) {
		kind, slot := c.Kind(e.Cell)
		if e.Who != who || e.Op != mem.Load || kind != lay.OfWord {
			t.Errorf("%v: %v", c, e)
		}
		list = append(list, slot)
	}
	return list
}

// stands tells of a Snap that isn't as it should be.
func stands(t *testing.T, s *snap.Snap, phase tick.Phase, passes int, want []uint64) {
	t.Helper()
	if s.Phase() != phase || s.Passes() != passes || !slices.Equal(s.Words(), want) {
		t.Errorf("Phase %d, Passes %d, Words %v, want %d, %d, %v", s.Phase(), s.Passes(), s.Words(), phase, passes, want)
	}
}

// step does a step of one that is Going, and holds that it touches one cell.
func step(t *testing.T, s *snap.Snap, m *mem.Mem) tick.Phase {
	t.Helper()
	was := m.Count()
	p := s.Step(m)
	if p != s.Phase() {
		t.Errorf("a step tells Phase %d, it is %d", p, s.Phase())
	}
	if m.Count() != was+1 {
		t.Errorf("a step touches %d cells", m.Count()-was)
	}
	return p
}

// goes does passes, whose last one is the last of all, and holds how it stands ahead of each step, and behind them.
func goes(t *testing.T, c C, s *snap.Snap, m *mem.Mem, passes int, want []uint64) {
	t.Helper()
	for i := range passes {
		for range c.All() {
			stands(t, s, tick.Going, i, nil)
			step(t, s, m)
		}
	}
	stands(t, s, tick.Done, passes, want)
	rests(t, s, m)
}

// rests holds that a Snap that is Done does nothing any more.
func rests(t *testing.T, s *snap.Snap, m *mem.Mem) {
	t.Helper()
	phase, passes, list, was := s.Phase(), s.Passes(), s.Words(), m.Count()
	for range 9 {
		if s.Step(m) != phase {
			t.Error("a step behind the last one turns the Phase")
		}
		stands(t, s, phase, passes, list)
	}
	if m.Count() != was {
		t.Error("a step behind the last one touches a cell")
	}
}

// P7.1: a new one is Going, and knows nothing; asking is no step.
func TestNew(t *testing.T) {
	for _, c := range []C{{Threads: 1, Slots: 1}, {Threads: 3, Slots: 2}, {Threads: 64, Slots: 64}} {
		for _, start := range []int{0, 1, -1, math.MinInt, math.MaxInt} {
			s := snap.New(c, c.Threads-1, start)
			for range 3 {
				stands(t, s, tick.Going, 0, nil)
			}
		}
	}
}

// P7.1: the chapter's example: of places that nobody turns it is Done behind two passes, and tells their Words.
func TestExample(t *testing.T) {
	c := C{Threads: 2, Slots: 2}
	m := cells(c)
	goes(t, c, snap.New(c, 0, 0), m, 2, []uint64{0, 0, 0, 0})
	if n := m.Count(); n != 8 {
		t.Errorf("behind %d steps", n)
	}
	m = cells(c, 5, top, 0, 3)
	goes(t, c, snap.New(c, 1, 2), m, 2, []uint64{5, top, 0, 3})
	var want []E
	for _, slot := range []int{2, 3, 0, 1, 2, 3, 0, 1} {
		x := m.Peek(c.Word(slot))
		want = append(want, load(1, c.Word(slot), x))
	}
	if got := noted(m); !slices.Equal(got, want) {
		t.Errorf("noted is %v\nwant     %v", got, want)
	}
}

// P7.1: from where on the places are read: start, as a number without a sign, modulo how many there are.
func TestStart(t *testing.T) {
	for _, x := range []struct{ threads, slots, start, want int }{
		{1, 1, 0, 0}, {1, 1, 1, 0}, {1, 1, -1, 0}, {1, 1, math.MinInt, 0}, {1, 1, math.MaxInt, 0},
		{1, 3, 0, 0}, {1, 3, 1, 1}, {1, 3, 2, 2}, {1, 3, 3, 0}, {1, 3, 4, 1}, {1, 3, 3000000001, 1},
		{1, 3, -1, 0}, {1, 3, -2, 2}, {1, 3, -3, 1}, {1, 3, -4, 0}, // 2^64 is 1 modulo 3
		{1, 3, math.MinInt, 2}, {1, 3, math.MinInt + 1, 0}, {1, 3, math.MaxInt, 1},
		{2, 2, 6, 2}, {2, 2, -1, 3}, {2, 2, -4, 0}, {2, 2, math.MinInt, 0}, {2, 2, math.MaxInt, 3},
		{2, 5, 10, 0}, {2, 5, 29, 9}, {2, 5, -1, 5}, {2, 5, -3, 3}, {2, 5, math.MinInt, 8}, {2, 5, math.MaxInt, 7},
		{64, 64, 4095, 4095}, {64, 64, 4096, 0}, {64, 64, -1, 4095}, {64, 64, 1 << 40, 0},
	} {
		c := C{Threads: x.threads, Slots: x.slots}
		m := cells(c)
		for i := range c.All() {
			m.Store(stranger, c.Word(i), uint64(i*i+7))
		}
		s := snap.New(c, 0, x.start)
		var want []int
		for i := range 2 * c.All() {
			want = append(want, (x.want+i)%c.All())
			step(t, s, m)
		}
		stands(t, s, tick.Done, 2, words(c, m))
		if got := loaded(t, c, 0, m); !slices.Equal(got, want) {
			t.Errorf("%v from %d on: %v, want from %d on", c, x.start, got, x.want)
		}
	}
}

// turn is that a place's Word is stored a number ahead of a step.
type turn struct {
	step, slot int
	x          uint64
}

// P7.1: it is Done behind the first pass, but the first one, that read what the one ahead of it did.
func TestTurns(t *testing.T) {
	c := C{Threads: 2, Slots: 2}
	for _, x := range []struct {
		start  int
		turns  []turn
		passes int
		want   []uint64
	}{
		// Nothing is turned that was read.
		{0, nil, 2, []uint64{1, 2, 3, 4}},
		{0, []turn{{0, 0, 9}}, 2, []uint64{9, 2, 3, 4}},
		{0, []turn{{3, 3, 9}}, 2, []uint64{1, 2, 3, 9}},
		{2, []turn{{3, 1, 9}}, 2, []uint64{1, 9, 3, 4}},
		// A Word is turned behind its being read in the first pass.
		{0, []turn{{1, 0, 9}}, 3, []uint64{9, 2, 3, 4}},
		{0, []turn{{4, 0, 9}}, 3, []uint64{9, 2, 3, 4}},
		{0, []turn{{4, 3, 9}}, 3, []uint64{1, 2, 3, 9}},
		{0, []turn{{7, 3, 9}}, 3, []uint64{1, 2, 3, 9}},
		{0, []turn{{7, 3, 0}}, 3, []uint64{1, 2, 3, 0}},
		{2, []turn{{3, 2, 9}}, 3, []uint64{1, 2, 9, 4}},
		// It is turned behind its being read in the last one: that isn't seen any more.
		{0, []turn{{5, 0, 9}}, 2, []uint64{1, 2, 3, 4}},
		{0, []turn{{7, 2, 9}}, 2, []uint64{1, 2, 3, 4}},
		{0, []turn{{4, 1, 9}, {10, 1, 8}}, 3, []uint64{1, 9, 3, 4}},
		// One pass behind the other reads another one.
		{0, []turn{{4, 3, 9}, {8, 0, 8}}, 4, []uint64{8, 2, 3, 9}},
		{0, []turn{{7, 3, 9}, {11, 3, 8}, {15, 3, 7}}, 5, []uint64{1, 2, 3, 7}},
		{1, []turn{{4, 1, 9}, {8, 0, 8}, {12, 2, 7}}, 5, []uint64{8, 9, 7, 4}},
		// It is turned and turned back: within a pass nothing is to be seen of that, from one to the next one it is.
		{0, []turn{{4, 2, 9}, {6, 2, 3}}, 2, []uint64{1, 2, 3, 4}},
		{0, []turn{{4, 2, 9}, {7, 2, 3}}, 4, []uint64{1, 2, 3, 4}},
		// A pass is as the last but one was, not as the one ahead.
		{0, []turn{{4, 0, 9}, {8, 0, 1}, {12, 0, 9}, {16, 0, 1}}, 6, []uint64{1, 2, 3, 4}},
	} {
		m := cells(c, 1, 2, 3, 4)
		s := snap.New(c, 1, x.start)
		for i := range 4 * x.passes {
			for _, u := range x.turns {
				if u.step == i {
					m.Store(stranger, c.Word(u.slot), u.x)
				}
			}
			stands(t, s, tick.Going, i/4, nil)
			step(t, s, m)
		}
		stands(t, s, tick.Done, x.passes, x.want)
		rests(t, s, m)
		if got := loaded(t, c, 1, m); len(got) != 4*x.passes {
			t.Errorf("%v: read %v", x.turns, got)
		}
	}
}

// P7.1: while ever anew a Word is turned it is Going, and never Full.
func TestTurnsForever(t *testing.T) {
	c := C{Threads: 3, Slots: 1}
	m := cells(c)
	s := snap.New(c, 2, 1)
	for i := range 900 {
		if i%3 == 0 {
			m.Add(stranger, c.Word(i/3%3), 1)
		}
		step(t, s, m)
		stands(t, s, tick.Going, (i+1)/3, nil)
	}
	for range 3 {
		step(t, s, m)
	}
	stands(t, s, tick.Done, 301, words(c, m))
}

// P7.1: Words are the same if each bit of them is.
func TestBits(t *testing.T) {
	c := C{Threads: 1, Slots: 2}
	for bit := range 64 {
		m := cells(c, 5, top)
		s := snap.New(c, 0, 0)
		step(t, s, m)
		step(t, s, m)
		m.Store(stranger, c.Word(1), top-1<<bit)
		for range 4 {
			stands(t, s, tick.Going, (m.Count()-3)/2, nil)
			step(t, s, m)
		}
		stands(t, s, tick.Done, 3, []uint64{5, top - 1<<bit})
	}
}

// P7.1: what other cells than the Words are is all one.
func TestOtherKinds(t *testing.T) {
	c := C{Threads: 2, Slots: 3}
	m := cells(c, 1, 2, 3, 4, 5, 6)
	s := snap.New(c, 0, 4)
	for i := range 12 {
		for cell := c.Value(0); cell < c.Cells(); cell++ {
			m.Store(stranger, cell, uint64(i+cell))
		}
		step(t, s, m)
	}
	stands(t, s, tick.Done, 2, []uint64{1, 2, 3, 4, 5, 6})
	loaded(t, c, 0, m)
}

// P7.1: at the limits.
func TestLimits(t *testing.T) {
	for _, c := range []C{{Threads: 1, Slots: 1}, {Threads: 1, Slots: 64}, {Threads: 64, Slots: 1}, {Threads: 64, Slots: 64, Source: lay.Wide, Delay: 100}} {
		m := cells(c)
		last := c.Word(c.All() - 1)
		m.Store(stranger, last, 3)
		s := snap.New(c, c.Threads-1, 0)
		for i := range 3 * c.All() {
			if i == c.All() {
				m.Store(stranger, last, top)
			}
			if s.Phase() != tick.Going || s.Passes() != i/c.All() {
				t.Errorf("%v: Phase %d, Passes %d ahead of step %d", c, s.Phase(), s.Passes(), i)
			}
			step(t, s, m)
		}
		stands(t, s, tick.Done, 3, words(c, m))
		rests(t, s, m)
	}
}

// P7.1: Words is new memory: who writes into it turns nothing.
func TestWordsIsNew(t *testing.T) {
	c := C{Threads: 1, Slots: 3}
	m := cells(c, 4, 5, 6)
	s := snap.New(c, 0, 0)
	for range 6 {
		step(t, s, m)
	}
	a, b := s.Words(), s.Words()
	a[1] = 99
	_ = append(a[:0], 7, 7, 7, 7)
	if !slices.Equal(b, []uint64{4, 5, 6}) {
		t.Errorf("another answer is %v", b)
	}
	stands(t, s, tick.Done, 2, []uint64{4, 5, 6})
	m.Store(stranger, c.Word(0), 99)
	stands(t, s, tick.Done, 2, []uint64{4, 5, 6})
}

// P7.1: what it does hangs on the cells that it is handed at that step.
func TestOtherCells(t *testing.T) {
	c := C{Threads: 1, Slots: 2}
	a, b := cells(c, 1, 2), cells(c, 1, 3)
	s := snap.New(c, 0, 0)
	for _, m := range []*mem.Mem{a, a, b, b, a, b} {
		stands(t, s, tick.Going, (a.Count()+b.Count()-4)/2, nil)
		step(t, s, m)
	}
	stands(t, s, tick.Done, 3, []uint64{1, 3})
}

// P7.1: two of them, even of one thread, have nothing in common.
func TestTwo(t *testing.T) {
	c := C{Threads: 1, Slots: 2}
	m := cells(c, 1, 2)
	a, b := snap.New(c, 0, 0), snap.New(c, 0, 1)
	for range 4 {
		step(t, a, m)
	}
	m.Store(stranger, c.Word(0), 9)
	stands(t, b, tick.Going, 0, nil)
	goes(t, c, b, m, 2, []uint64{9, 2})
	stands(t, a, tick.Done, 2, []uint64{1, 2})
}

// P7.2: if no Word is ever again what it was, all Words were as Words tells them from the last step of the last pass but
// one to the first one of the last pass; in orders made by a rule of numbers.
func TestAtOneTime(t *testing.T) {
	x := uint64(3)
	pick := func(n int) int {
		x = x*6364136223846793005 + 1442695040888963407
		return int(x>>33) % n
	}
	longest := 0
	for range 2000 {
		c := C{Threads: 1 + pick(3), Slots: 1 + pick(3)}
		m := cells(c)
		s := snap.New(c, 0, pick(c.All()))
		seldom := 1 + pick(4*c.All())
		var behind, ahead []uint64 // the Words behind the last step of the last pass but one, and ahead of the first one of the last pass
		for i := 0; s.Phase() == tick.Going && i < 1<<16; i++ {
			if i%c.All() == 0 {
				behind = words(c, m)
			}
			for pick(seldom) == 0 {
				seldom++ // else it might never end
				m.Add(stranger, c.Word(pick(c.All())), 1)
			}
			if i%c.All() == 0 {
				ahead = words(c, m)
			}
			step(t, s, m)
		}
		stands(t, s, tick.Done, s.Passes(), behind)
		stands(t, s, tick.Done, s.Passes(), ahead)
		longest = max(longest, s.Passes())
	}
	if longest < 4 {
		t.Errorf("at most %d passes were held", longest)
	}
}
