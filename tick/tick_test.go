package tick_test

import (
	"math"
	"slices"
	"testing"

	"stackyard/lay"
	"stackyard/mem"
	"stackyard/stamp"
	"stackyard/tick"
)

type (
	C = lay.Conf
	E = mem.Event
	S = stamp.Stamp
)

const (
	top  = stamp.Top
	most = math.MaxUint64
)

// stranger is none of the threads: who turns cells ahead of the steps that are held.
const stranger = -9

func from(lo, hi int) S { return S{Lo: lo, Hi: hi} }

func note(who int, op mem.Op, cell int, old, next uint64, ok bool) E {
	return E{Who: who, Op: op, Cell: cell, Old: old, New: next, OK: ok}
}

// sources are all of them.
var sources = []lay.Source{lay.Count, lay.Stutter, lay.Swap, lay.Clock, lay.Wide}

// cells are those of c, with these Numbers, thread by thread.
func cells(c C, numbers ...uint64) *mem.Mem {
	m := mem.New(c.Cells())
	for i, x := range numbers {
		if x != 0 {
			m.Store(stranger, c.Number(i), x)
		}
	}
	return m
}

// numbers are the Numbers of all threads.
func numbers(c C, m *mem.Mem) []uint64 {
	var list []uint64
	for i := range c.Threads {
		list = append(list, m.Peek(c.Number(i)))
	}
	return list
}

// noted is what the threads did.
func noted(m *mem.Mem) []E {
	return slices.DeleteFunc(m.Log(), func(e E) bool { return e.Who == stranger })
}

// stands tells of a Ticker that isn't as it should be.
func stands(t *testing.T, k *tick.Ticker, phase tick.Phase, s S) {
	t.Helper()
	if k.Phase() != phase || k.Stamp() != s {
		t.Errorf("Phase %d, Stamp %v, want %d, %v", k.Phase(), k.Stamp(), phase, s)
	}
}

// goes does steps until it isn't Going any more, at the times that are told, and holds that this is so behind the last one.
func goes(t *testing.T, k *tick.Ticker, m *mem.Mem, times []int, phase tick.Phase, s S) {
	t.Helper()
	for i, now := range times {
		stands(t, k, tick.Going, S{})
		was := m.Count()
		p := k.Step(m, now)
		if p != k.Phase() {
			t.Errorf("step %d tells Phase %d, it is %d", i, p, k.Phase())
		}
		if m.Count() > was+1 {
			t.Errorf("step %d touches more than one cell", i)
		}
	}
	stands(t, k, phase, s)
	rests(t, k, m)
}

// ends does as many steps at a time as there may be, or less, if it isn't Going any more.
func ends(c C, k *tick.Ticker, m *mem.Mem, now int) tick.Phase {
	for range tick.Most(c) {
		if k.Step(m, now) != tick.Going {
			break
		}
	}
	return k.Phase()
}

// rests holds that a Ticker that isn't Going does nothing any more.
func rests(t *testing.T, k *tick.Ticker, m *mem.Mem) {
	t.Helper()
	phase, s, was := k.Phase(), k.Stamp(), m.Count()
	for _, now := range []int{0, 7, top, math.MaxInt} {
		if k.Step(m, now) != phase {
			t.Error("a step behind the last one turns the Phase")
		}
		stands(t, k, phase, s)
	}
	if m.Count() != was {
		t.Error("a step behind the last one touches a cell")
	}
}

// did holds what the threads did, and the Numbers behind it.
func did(t *testing.T, c C, m *mem.Mem, want []E, after ...uint64) {
	t.Helper()
	if got := noted(m); !slices.Equal(got, want) {
		t.Errorf("noted is %v\nwant     %v", got, want)
	}
	if got := numbers(c, m); !slices.Equal(got, after) {
		t.Errorf("Numbers are %v, want %v", got, after)
	}
}

// P5.1: the numbers of the phases.
func TestConstants(t *testing.T) {
	if tick.Going != 0 || tick.Done != 1 || tick.Full != 2 {
		t.Error("constants")
	}
}

// P5.1: a new one is Going and has no stamp, at the limits too; asking is no step.
func TestNew(t *testing.T) {
	for _, source := range sources {
		for _, c := range []C{{Threads: 1, Slots: 1, Source: source}, {Threads: 64, Slots: 64, Source: source, Delay: 100}} {
			for _, who := range []int{0, c.Threads - 1} {
				k := tick.New(c, who)
				for range 3 {
					stands(t, k, tick.Going, S{})
				}
				m := mem.New(c.Cells())
				if phase := ends(c, k, m, 0); phase != tick.Done {
					t.Errorf("%v, thread %d: Phase %d", c, who, phase)
				}
				rests(t, k, m)
			}
		}
	}
}

// P5.2, by Count: 1 is Added to the first thread's Number, whoever asks; what that was is the stamp.
func TestCount(t *testing.T) {
	c := C{Threads: 3, Slots: 2, Delay: 9}
	for _, x := range []struct {
		who   int
		was   uint64
		phase tick.Phase
		want  S
	}{
		{0, 0, tick.Done, from(0, 0)},
		{1, 1, tick.Done, from(1, 1)},
		{2, 4242, tick.Done, from(4242, 4242)},
		{0, top - 1, tick.Done, from(top-1, top-1)},
		{1, top, tick.Full, S{}},
		{1, top + 1, tick.Full, S{}},
		{2, 1 << 32, tick.Full, S{}},
		{2, 1<<32 + 5, tick.Full, S{}},
		{2, math.MaxInt64, tick.Full, S{}},
		{2, 1 << 63, tick.Full, S{}},
		{0, most, tick.Full, S{}},
	} {
		m := cells(c, x.was, 77, 88)
		k := tick.New(c, x.who)
		goes(t, k, m, []int{30}, x.phase, x.want)
		did(t, c, m, []E{note(x.who, mem.Add, c.Number(0), x.was, x.was+1, true)}, x.was+1, 77, 88)
	}
}

// P5.2: the chapter's example.
func TestExample(t *testing.T) {
	c := C{Threads: 2, Slots: 3}
	m := cells(c)
	for i := range 3 {
		goes(t, tick.New(c, i%2), m, []int{0}, tick.Done, from(i, i))
	}
}

// P5.2, by Stutter: all Numbers are Loaded, in order; one more than the greatest is Stored in one's own.
func TestStutter(t *testing.T) {
	c := C{Threads: 3, Slots: 2, Source: lay.Stutter, Delay: 9}
	for _, x := range []struct {
		was   []uint64
		phase tick.Phase
		want  int
	}{
		{[]uint64{0, 0, 0}, tick.Done, 1},
		{[]uint64{4, 0, 6}, tick.Done, 7},
		{[]uint64{9, 0, 6}, tick.Done, 10},
		{[]uint64{1, 5, 2}, tick.Done, 6},
		{[]uint64{3, 3, 3}, tick.Done, 4},
		{[]uint64{0, top - 2, 0}, tick.Done, top - 1},
		{[]uint64{0, 0, top - 1}, tick.Full, 0},
		{[]uint64{top, 0, 0}, tick.Full, 0},
		{[]uint64{0, top + 1, 0}, tick.Full, 0},
		{[]uint64{5, 6, 1 << 63}, tick.Full, 0},
		{[]uint64{1<<32 + 5, 6, 7}, tick.Full, 0},
		{[]uint64{most, most, most}, tick.Full, 0},
	} {
		for who := range 3 {
			m := cells(c, x.was...)
			k := tick.New(c, who)
			goes(t, k, m, []int{30, 31, 32, 33}, x.phase, from(x.want, x.want))
			var want []E
			after := slices.Clone(x.was)
			for i, n := range x.was {
				want = append(want, note(who, mem.Load, c.Number(i), n, n, true))
			}
			if x.phase == tick.Done {
				want = append(want, note(who, mem.Store, c.Number(who), x.was[who], uint64(x.want), true))
				after[who] = uint64(x.want)
			}
			did(t, c, m, want, after...)
		}
	}
}

// P5.2, by Stutter: what counts is what a Number was when it was Loaded.
func TestStutterMeanwhile(t *testing.T) {
	c := C{Threads: 2, Slots: 1, Source: lay.Stutter}
	m := cells(c, 5, 3)
	k := tick.New(c, 1)
	k.Step(m, 0)
	m.Store(stranger, c.Number(0), 50) // Loaded already
	m.Store(stranger, c.Number(1), 8)
	k.Step(m, 0)
	m.Store(stranger, c.Number(1), 60) // so is this, which is its own
	goes(t, k, m, []int{0}, tick.Done, from(9, 9))
	did(t, c, m, []E{
		note(1, mem.Load, c.Number(0), 5, 5, true),
		note(1, mem.Load, c.Number(1), 8, 8, true),
		note(1, mem.Store, c.Number(1), 60, 9, true),
	}, 50, 9)
}

// P5.2, by Stutter: of one thread, and of as many as there may be.
func TestStutterLimits(t *testing.T) {
	for _, threads := range []int{1, 64} {
		c := C{Threads: threads, Slots: 1, Source: lay.Stutter}
		m := cells(c)
		m.Store(stranger, c.Number(threads-1), 41)
		goes(t, tick.New(c, 0), m, make([]int, threads+1), tick.Done, from(42, 42))
		if m.Peek(c.Number(0)) != 42 {
			t.Errorf("of %d threads", threads)
		}
	}
}

// turn is that the first thread's Number is stored a number ahead of a step.
type turn struct {
	step int
	x    uint64
}

// P5.2, by Swap: each way that it goes, with the counter turned on its way.
func TestSwap(t *testing.T) {
	c := C{Threads: 3, Slots: 2, Source: lay.Swap, Delay: 9}
	load := func(x uint64) E { return note(1, mem.Load, c.Number(0), x, x, true) }
	swapped := func(x uint64) E { return note(1, mem.Swap, c.Number(0), x, x+1, true) }
	missed := func(x uint64) E { return note(1, mem.Swap, c.Number(0), x, x, false) }
	for _, x := range []struct {
		was   uint64
		turns []turn
		phase tick.Phase
		want  S
		did   []E
	}{
		// Nobody turns it.
		{0, nil, tick.Done, from(0, 0), []E{load(0), load(0), swapped(0)}},
		{6, nil, tick.Done, from(6, 6), []E{load(6), load(6), swapped(6)}},
		{top - 1, nil, tick.Done, from(top-1, top-1), []E{load(top - 1), load(top - 1), swapped(top - 1)}},
		{top, nil, tick.Full, S{}, []E{load(top)}},
		{top + 1, nil, tick.Full, S{}, []E{load(top + 1)}},
		{1 << 32, nil, tick.Full, S{}, []E{load(1 << 32)}},
		{1 << 63, nil, tick.Full, S{}, []E{load(1 << 63)}},
		{most, nil, tick.Full, S{}, []E{load(most)}},
		// It is turned ahead of the second step.
		{6, []turn{{1, 7}}, tick.Done, from(6, 6), []E{load(6), load(7)}},
		{6, []turn{{1, 11}}, tick.Done, from(6, 10), []E{load(6), load(11)}},
		{0, []turn{{1, top}}, tick.Done, from(0, top-1), []E{load(0), load(top)}},
		{0, []turn{{1, top + 1}}, tick.Done, from(0, top-1), []E{load(0), load(top + 1)}},
		{0, []turn{{1, 1 << 32}}, tick.Done, from(0, top-1), []E{load(0), load(1 << 32)}},
		{3, []turn{{1, most}}, tick.Done, from(3, top-1), []E{load(3), load(most)}},
		{6, []turn{{1, 5}}, tick.Full, S{}, []E{load(6), load(5)}},
		{6, []turn{{1, 0}}, tick.Full, S{}, []E{load(6), load(0)}},
		// It is turned ahead of the Swap.
		{6, []turn{{2, 7}}, tick.Done, from(6, 6), []E{load(6), load(6), missed(7), load(7)}},
		{6, []turn{{2, 7}, {3, 9}}, tick.Done, from(6, 8), []E{load(6), load(6), missed(7), load(9)}},
		{6, []turn{{2, 7}, {3, top}}, tick.Done, from(6, top-1), []E{load(6), load(6), missed(7), load(top)}},
		{6, []turn{{2, 7}, {3, most}}, tick.Done, from(6, top-1), []E{load(6), load(6), missed(7), load(most)}},
		{6, []turn{{2, 7}, {3, 6}}, tick.Full, S{}, []E{load(6), load(6), missed(7), load(6)}},
		{6, []turn{{2, 2}}, tick.Full, S{}, []E{load(6), load(6), missed(2), load(2)}},
		{0, []turn{{2, 1}, {3, 0}}, tick.Full, S{}, []E{load(0), load(0), missed(1), load(0)}},
		// It is turned and turned back: nothing is to be seen of that.
		{6, []turn{{1, 9}, {1, 6}, {2, 8}, {2, 6}}, tick.Done, from(6, 6), []E{load(6), load(6), swapped(6)}},
	} {
		m := cells(c, x.was, 77, 88)
		k := tick.New(c, 1)
		for i := range x.did {
			for _, u := range x.turns {
				if u.step == i {
					m.Store(stranger, c.Number(0), u.x)
				}
			}
			stands(t, k, tick.Going, S{})
			if k.Step(m, 30) != k.Phase() {
				t.Error("what Step tells")
			}
		}
		stands(t, k, x.phase, x.want)
		rests(t, k, m)
		last := x.did[len(x.did)-1]
		did(t, c, m, x.did, last.New, 77, 88)
	}
}

// times are n of them, all the same but the first and the last one.
func times(n, first, between, last int) []int {
	list := slices.Repeat([]int{between}, n)
	list[0], list[n-1] = first, last
	return list
}

// P5.2, by Clock: one step, of the time; no cell is touched, whatever is in the cells.
func TestClock(t *testing.T) {
	c := C{Threads: 2, Slots: 1, Source: lay.Clock, Delay: 9}
	for _, x := range []struct {
		now   int
		phase tick.Phase
		want  S
	}{
		{0, tick.Done, from(0, 0)},
		{50, tick.Done, from(50, 50)},
		{top - 1, tick.Done, from(top-1, top-1)},
		{top, tick.Full, S{}},
		{top + 1, tick.Full, S{}},
		{1 << 32, tick.Full, S{}},
		{1 << 40, tick.Full, S{}},
		{math.MaxInt, tick.Full, S{}},
	} {
		m := cells(c, most, 3)
		goes(t, tick.New(c, 1), m, []int{x.now}, x.phase, x.want)
		did(t, c, m, nil, most, 3)
	}
}

// P5.2, by Wide: from the first step's time to the last one's, with Delay steps between them; no cell is touched.
func TestWide(t *testing.T) {
	for _, delay := range []int{0, 1, 2, 99, 100} {
		c := C{Threads: 2, Slots: 1, Source: lay.Wide, Delay: delay}
		for _, x := range []struct {
			first, between, last int
			phase                tick.Phase
			want                 S
		}{
			{0, 0, 0, tick.Done, from(0, 0)},
			{50, 51, 53, tick.Done, from(50, 53)},
			{50, 50, 50, tick.Done, from(50, 50)},
			{7, 90, 8, tick.Done, from(7, 8)}, // what is between doesn't count
			{7, math.MaxInt, 8, tick.Done, from(7, 8)},
			{0, 1, top - 1, tick.Done, from(0, top-1)},
			{top - 1, top - 1, top - 1, tick.Done, from(top-1, top-1)},
			{0, 1, top, tick.Full, S{}},
			{top - 1, top, top, tick.Full, S{}},
			{top, top, top, tick.Full, S{}},
			{top, 5, 6, tick.Full, S{}},
			{1 << 32, 5, 6, tick.Full, S{}},
			{3, 5, 1<<32 + 4, tick.Full, S{}},
			{math.MaxInt, math.MaxInt, math.MaxInt, tick.Full, S{}},
			{9, 9, 8, tick.Full, S{}}, // the time goes back: no stamp is from 9 to 8
		} {
			m := cells(c, most, 3)
			goes(t, tick.New(c, 1), m, times(delay+2, x.first, x.between, x.last), x.phase, x.want)
			did(t, c, m, nil, most, 3)
		}
	}
}

// P5.1: what it does hangs on the cells that it is handed at that step.
func TestOtherCells(t *testing.T) {
	c := C{Threads: 2, Slots: 1, Source: lay.Stutter}
	a, b := cells(c, 5, 9), cells(c, 30, 2)
	k := tick.New(c, 0)
	k.Step(a, 0)
	k.Step(b, 0)
	goes(t, k, a, []int{0}, tick.Done, from(6, 6))
	did(t, c, a, []E{
		note(0, mem.Load, c.Number(0), 5, 5, true),
		note(0, mem.Store, c.Number(0), 5, 6, true),
	}, 6, 9)
	did(t, c, b, []E{note(0, mem.Load, c.Number(1), 2, 2, true)}, 30, 2)
}

// P5.1: two of them, even of one thread, have nothing in common.
func TestTwo(t *testing.T) {
	for _, source := range sources {
		c := C{Threads: 1, Slots: 1, Source: source, Delay: 1}
		m := cells(c)
		a, b := tick.New(c, 0), tick.New(c, 0)
		ends(c, a, m, 3)
		stands(t, b, tick.Going, S{})
		was := a.Stamp()
		ends(c, b, m, 8)
		if a.Stamp() != was || !was.Before(b.Stamp()) {
			t.Errorf("by %d: %v, then %v", source, was, b.Stamp())
		}
	}
}

// P5.3: Most, of all Confs at the bounds.
func TestMost(t *testing.T) {
	for _, threads := range []int{1, 2, 64} {
		for _, slots := range []int{1, 64} {
			for _, delay := range []int{0, 1, 100} {
				for source, want := range []int{1, threads + 1, 4, 1, delay + 2} {
					c := C{Threads: threads, Slots: slots, Source: lay.Source(source), Delay: delay}
					if got := tick.Most(c); got != want {
						t.Errorf("%v Most: %d, want %d", c, got, want)
					}
				}
			}
		}
	}
}

// made is a stamp, and the numbers of its first and its last step.
type made struct {
	stamp       S
	first, last int
}

// crew is threads that make stamps on the same cells, each one behind the other.
type crew struct {
	c      C
	m      *mem.Mem
	now    int
	under  []*tick.Ticker
	begun  []int // the number of the first step of what is under way
	took   []int // how many steps that took
	whose  []int // of each thing that was noted, who did that step
	stamps []made
}

func newCrew(c C) *crew {
	return &crew{
		c: c, m: mem.New(c.Cells()),
		under: make([]*tick.Ticker, c.Threads), begun: make([]int, c.Threads), took: make([]int, c.Threads),
	}
}

// step is one step of a thread, which begins a stamp if none is under way; then the time is one more.
func (w *crew) step(t *testing.T, who int) {
	t.Helper()
	if w.under[who] == nil {
		w.under[who], w.begun[who], w.took[who] = tick.New(w.c, who), w.now, 0
	}
	k, was := w.under[who], w.m.Count()
	phase := k.Step(w.m, w.now)
	w.took[who]++
	if w.m.Count() > was+1 {
		t.Fatalf("%v: a step touches more than one cell", w.c)
	}
	if w.m.Count() > was {
		w.whose = append(w.whose, who)
	}
	if w.took[who] > tick.Most(w.c) {
		t.Fatalf("%v: more steps than Most", w.c)
	}
	if phase == tick.Full {
		t.Fatalf("%v: Full", w.c)
	}
	if phase == tick.Done {
		w.stamps = append(w.stamps, made{k.Stamp(), w.begun[who], w.now})
		w.under[who] = nil
	}
	w.now++
}

// holds tells of a cell that was touched by another thread than the one that stepped, of a stamp that isn't Right,
// or isn't Before one whose first step was behind its last one.
func (w *crew) holds(t *testing.T) {
	t.Helper()
	for i, e := range w.m.Log() {
		if e.Who != w.whose[i] {
			t.Fatalf("%v: a step of thread %d is noted as one of %d", w.c, w.whose[i], e.Who)
		}
	}
	for _, a := range w.stamps {
		if !a.stamp.Right() {
			t.Fatalf("%v: %v isn't Right", w.c, a.stamp)
		}
		for _, b := range w.stamps {
			if a.last < b.first && !a.stamp.Before(b.stamp) {
				t.Fatalf("%v: %v isn't Before %v", w.c, a, b)
			}
		}
	}
}

// P5.3: two threads, in whatever order they do some steps.
func TestBeforeInEveryOrder(t *testing.T) {
	const steps = 13
	for _, source := range sources {
		c := C{Threads: 2, Slots: 1, Source: source, Delay: 1}
		for order := range 1 << steps {
			w := newCrew(c)
			for i := range steps {
				w.step(t, order>>i&1)
			}
			w.holds(t)
		}
	}
}

// P5.3: many threads, in orders made by a rule of numbers, in which now one and now another one hurries.
func TestBeforeOfMany(t *testing.T) {
	x := uint64(1)
	for _, source := range sources {
		for _, threads := range []int{3, 5, 9} {
			wider, longest := 0, 0
			for range 40 {
				c := C{Threads: threads, Slots: 1, Source: source, Delay: 3}
				w := newCrew(c)
				for range 150 {
					x = x*6364136223846793005 + 1442695040888963407
					who := int(x>>33) % threads
					for range x >> 61 {
						w.step(t, who)
						longest = max(longest, w.took[who])
					}
				}
				w.holds(t)
				for _, a := range w.stamps {
					wider += a.stamp.Hi - a.stamp.Lo
				}
			}
			if longest != tick.Most(lay.Conf{Threads: threads, Source: source, Delay: 3}) {
				t.Errorf("by %d, of %d threads, Most was never taken, but %d steps", source, threads, longest)
			}
			if wide := source == lay.Swap || source == lay.Wide; wide != (wider > 0) {
				t.Errorf("by %d, of %d threads, the stamps are %d wide in all", source, threads, wider)
			}
		}
	}
}
