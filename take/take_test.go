package take_test

import (
	"math"
	"slices"
	"testing"

	"stackyard/claim"
	"stackyard/lay"
	"stackyard/mem"
	"stackyard/stamp"
	"stackyard/take"
	"stackyard/tick"
	"stackyard/word"
)

type (
	C = lay.Conf
	E = mem.Event
	W = word.Word
)

const top = math.MaxUint64

// stranger is none of the threads: who turns cells beside the steps that are held.
const stranger = -9

var (
	live  = W{State: word.Live, End: word.Right, Gen: 4, Stamp: stamp.Stamp{Lo: 5, Hi: 9}}
	gone  = W{State: word.Gone, End: word.Right, Gen: 4, Stamp: stamp.Stamp{Lo: 5, Hi: 9}}
	other = W{State: word.Live, End: word.Right, Gen: 5, Stamp: stamp.Stamp{Lo: 10, Hi: 10}}
)

// cells are those of c, with a place's Word and Value.
func cells(c C, slot int, w W, value uint64) *mem.Mem {
	m := mem.New(c.Cells())
	m.Store(stranger, c.Value(slot), value)
	m.Store(stranger, c.Word(slot), w.Pack())
	return m
}

func load(who, cell int, x uint64) E {
	return E{Who: who, Op: mem.Load, Cell: cell, Old: x, New: x, OK: true}
}

func store(who, cell int, was, x uint64) E {
	return E{Who: who, Op: mem.Store, Cell: cell, Old: was, New: x, OK: true}
}

func swap(who, cell int, was, x uint64) E {
	return E{Who: who, Op: mem.Swap, Cell: cell, Old: was, New: x, OK: true}
}

// fails is a Swap of a cell that was another number.
func fails(who, cell int, was uint64) E {
	return E{Who: who, Op: mem.Swap, Cell: cell, Old: was, New: was}
}

// did holds what the threads did.
func did(t *testing.T, m *mem.Mem, want ...E) {
	t.Helper()
	got := slices.DeleteFunc(m.Log(), func(e E) bool { return e.Who == stranger })
	if !slices.Equal(got, want) {
		t.Errorf("noted is %v\nwant     %v", got, want)
	}
}

// stands tells of a Take that isn't as it should be.
func stands(t *testing.T, k *take.Take, phase tick.Phase, value uint64) {
	t.Helper()
	if k.Phase() != phase || k.Value() != value {
		t.Errorf("Phase %d, Value %d, want %d, %d", k.Phase(), k.Value(), phase, value)
	}
}

// step does a step of one that is Going, and holds that it touches one cell.
func step(t *testing.T, k *take.Take, m *mem.Mem) {
	t.Helper()
	stands(t, k, tick.Going, 0)
	was := m.Count()
	if p := k.Step(m); p != k.Phase() {
		t.Errorf("a step tells Phase %d, it is %d", p, k.Phase())
	}
	if m.Count() != was+1 {
		t.Errorf("a step touches %d cells", m.Count()-was)
	}
}

// goes does the steps that are left, and holds how it ends.
func goes(t *testing.T, k *take.Take, m *mem.Mem, steps int, phase tick.Phase, value uint64) {
	t.Helper()
	for range steps {
		step(t, k, m)
	}
	stands(t, k, phase, value)
	rests(t, k, m)
}

// rests holds that a Take that isn't Going does nothing any more.
func rests(t *testing.T, k *take.Take, m *mem.Mem) {
	t.Helper()
	phase, value, was := k.Phase(), k.Value(), m.Count()
	for range 6 {
		if k.Step(m) != phase {
			t.Error("a step behind the last one turns the Phase")
		}
		stands(t, k, phase, value)
	}
	if m.Count() != was {
		t.Error("a step behind the last one touches a cell")
	}
}

// P9.1: a new one is Going, and has nothing; asking is no step.
func TestNew(t *testing.T) {
	for _, c := range []C{{Threads: 1, Slots: 1}, {Threads: 64, Slots: 64, Source: lay.Wide, Delay: 100}} {
		k := take.New(c, c.Threads-1, c.All()-1, live.Pack())
		for range 3 {
			stands(t, k, tick.Going, 0)
		}
	}
}

// P9.1: the chapter's example, and what is noted: alone it is Done behind 5 steps, with what was in it.
func TestAlone(t *testing.T) {
	for _, x := range []struct {
		c         C
		who, slot int
	}{
		{C{Threads: 1, Slots: 1}, 0, 0},
		{C{Threads: 2, Slots: 3}, 0, 0}, {C{Threads: 2, Slots: 3}, 0, 5}, {C{Threads: 2, Slots: 3}, 1, 0}, {C{Threads: 2, Slots: 3}, 1, 4},
		{C{Threads: 64, Slots: 64}, 0, 4095}, {C{Threads: 64, Slots: 64}, 63, 0}, {C{Threads: 64, Slots: 64}, 63, 4095},
	} {
		for _, value := range []uint64{0, 1, 7, top} {
			for source := lay.Count; source <= lay.Wide; source++ {
				c := x.c
				c.Source = source
				m := cells(c, x.slot, live, value)
				goes(t, take.New(c, x.who, x.slot, live.Pack()), m, 5, tick.Done, value)
				did(t, m,
					store(x.who, c.Hazard(x.who), 0, uint64(x.slot+1)),
					load(x.who, c.Word(x.slot), live.Pack()),
					load(x.who, c.Value(x.slot), value),
					swap(x.who, c.Word(x.slot), live.Pack(), gone.Pack()),
					store(x.who, c.Hazard(x.who), uint64(x.slot+1), 0))
			}
		}
	}
}

// P9.1: the chapter's other example: where the Word is another one it is Full behind 3 steps, and nothing is turned.
func TestLost(t *testing.T) {
	c := C{Threads: 3, Slots: 2}
	for _, is := range []W{{}, gone, other, {State: word.Live, Gen: 4, Stamp: live.Stamp}} {
		m := cells(c, 4, is, 7)
		goes(t, take.New(c, 1, 4, live.Pack()), m, 3, tick.Full, 0)
		did(t, m, store(1, c.Hazard(1), 0, 5), load(1, c.Word(4), is.Pack()), store(1, c.Hazard(1), 5, 0))
	}
}

// P9.1: if its Word is turned behind its being Loaded it is Full behind 5 steps, and the Word stays as that.
func TestLostLate(t *testing.T) {
	c := C{Threads: 3, Slots: 2}
	for _, is := range []W{{}, gone, other} {
		for _, steps := range []int{2, 3} {
			m := cells(c, 4, live, 7)
			k := take.New(c, 1, 4, live.Pack())
			for range steps {
				step(t, k, m)
			}
			m.Store(stranger, c.Word(4), is.Pack())
			goes(t, k, m, 5-steps, tick.Full, 0)
			did(t, m, store(1, c.Hazard(1), 0, 5), load(1, c.Word(4), live.Pack()), load(1, c.Value(4), 7),
				fails(1, c.Word(4), is.Pack()), store(1, c.Hazard(1), 5, 0))
		}
	}
}

// P9.1: a Word is word if each bit of it is: when it is Loaded, and when it is Swapped.
func TestBits(t *testing.T) {
	c := C{Threads: 1, Slots: 2}
	x := live.Pack()
	for bit := range 64 {
		m := cells(c, 1, live, 7)
		k := take.New(c, 0, 1, x)
		m.Store(stranger, c.Word(1), x^1<<bit)
		goes(t, k, m, 3, tick.Full, 0)

		m = cells(c, 1, live, 7)
		k = take.New(c, 0, 1, x)
		for range 3 {
			step(t, k, m)
		}
		m.Store(stranger, c.Word(1), x^1<<bit)
		goes(t, k, m, 2, tick.Full, 0)
		if got := m.Peek(c.Word(1)); got != x^1<<bit {
			t.Errorf("the Word is %x, want %x", got, x^1<<bit)
		}
	}
}

// P9.1: whatever word is such as Pack tells, it is then the same, but Gone; even one of which nothing is Live.
func TestWords(t *testing.T) {
	c := C{Threads: 2, Slots: 1}
	for _, w := range []W{
		{}, {End: word.Right, Gen: 3}, live, gone, {State: word.Gone}, {State: word.Live},
		{State: word.Live, Gen: word.MaxGen},
		{State: word.Live, End: word.Right, Gen: word.MaxGen, Stamp: stamp.Stamp{Lo: stamp.Top, Hi: stamp.Top}},
		{State: word.Live, Stamp: stamp.Stamp{Lo: stamp.Top}},
		{State: word.Live, Stamp: stamp.Stamp{Hi: stamp.Top}},
	} {
		m := cells(c, 0, w, 7)
		goes(t, take.New(c, 1, 0, w.Pack()), m, 5, tick.Done, 7)
		want := w
		want.State = word.Gone
		if got := word.Unpack(m.Peek(c.Word(0))); got != want {
			t.Errorf("%v is %v", w, got)
		}
	}
}

// P9.1: of all Hazards it stores who's own one alone, from the first step on, whatever that was, until the last one.
func TestHazard(t *testing.T) {
	c := C{Threads: 3, Slots: 2}
	for _, lost := range []bool{false, true} {
		m := cells(c, 3, live, 7)
		for i := range c.Threads {
			m.Store(stranger, c.Hazard(i), 40+uint64(i))
		}
		k, steps, end, value := take.New(c, 2, 3, live.Pack()), 5, tick.Done, uint64(7)
		if lost {
			k, steps, end, value = take.New(c, 2, 3, other.Pack()), 3, tick.Full, 0
		}
		for i := range steps {
			want := uint64(4)
			if i == 0 {
				want = 42
			}
			if got := m.Peek(c.Hazard(2)); got != want {
				t.Errorf("the Hazard is %d behind %d steps, want %d", got, i, want)
			}
			step(t, k, m)
		}
		stands(t, k, end, value)
		for i, want := range []uint64{40, 41, 0} {
			if got := m.Peek(c.Hazard(i)); got != want {
				t.Errorf("the Hazard %d is %d, want %d", i, got, want)
			}
		}
	}
}

// P9.1: whoever turns who's Hazard meanwhile, the steps are the same.
func TestHazardTurned(t *testing.T) {
	c := C{Threads: 2, Slots: 1}
	m := cells(c, 1, live, 7)
	k := take.New(c, 0, 1, live.Pack())
	for range 5 {
		step(t, k, m)
		m.Store(stranger, c.Hazard(0), 9)
	}
	stands(t, k, tick.Done, 7)
	did(t, m, store(0, c.Hazard(0), 0, 2), load(0, c.Word(1), live.Pack()), load(0, c.Value(1), 7),
		swap(0, c.Word(1), live.Pack(), gone.Pack()), store(0, c.Hazard(0), 9, 0))
}

// P9.1: what counts is what a cell was when it was touched.
func TestMeanwhile(t *testing.T) {
	c := C{Threads: 2, Slots: 2}
	m := cells(c, 2, other, 7)
	k := take.New(c, 0, 2, live.Pack())
	step(t, k, m)
	m.Store(stranger, c.Word(2), live.Pack()) // now it is as it was said to be
	step(t, k, m)
	m.Store(stranger, c.Word(2), other.Pack())
	m.Store(stranger, c.Value(2), 8)
	step(t, k, m)
	m.Store(stranger, c.Value(2), 9)          // Loaded already
	m.Store(stranger, c.Word(2), live.Pack()) // turned back
	step(t, k, m)
	m.Store(stranger, c.Word(2), other.Pack()) // Swapped already
	goes(t, k, m, 1, tick.Done, 8)
	if got := m.Peek(c.Word(2)); got != other.Pack() {
		t.Errorf("the Word is %x", got)
	}
}

// P9.1: what it does hangs on the cells that it is handed at that step.
func TestOtherCells(t *testing.T) {
	c := C{Threads: 1, Slots: 1}
	a, b := cells(c, 0, live, 7), cells(c, 0, live, 8)
	k := take.New(c, 0, 0, live.Pack())
	for _, m := range []*mem.Mem{a, b, b, a, b} {
		step(t, k, m)
	}
	stands(t, k, tick.Done, 8)
	did(t, a, store(0, c.Hazard(0), 0, 1), swap(0, c.Word(0), live.Pack(), gone.Pack()))
	did(t, b, load(0, c.Word(0), live.Pack()), load(0, c.Value(0), 8), store(0, c.Hazard(0), 0, 0))
}

// P9.1: two of them, even of one thread, have nothing in common.
func TestTwo(t *testing.T) {
	c := C{Threads: 1, Slots: 2}
	m := cells(c, 0, live, 7)
	m.Store(stranger, c.Value(1), 8)
	m.Store(stranger, c.Word(1), other.Pack())
	a, b := take.New(c, 0, 0, live.Pack()), take.New(c, 0, 1, other.Pack())
	step(t, a, m)
	step(t, a, m)
	goes(t, b, m, 5, tick.Done, 8)
	goes(t, a, m, 3, tick.Done, 7)
}

// P9.1, P9.2: of two threads that take the same, in each order of steps, one is Done and the other one is Full.
func TestOneOfTwo(t *testing.T) {
	c := C{Threads: 2, Slots: 1}
	ends := map[int]int{}
	for order := range 1 << 10 {
		m := cells(c, 1, live, 7)
		list := []*take.Take{take.New(c, 0, 1, live.Pack()), take.New(c, 1, 1, live.Pack())}
		for i := range 10 {
			list[order>>i&1].Step(m)
		}
		for range 5 {
			list[0].Step(m)
			list[1].Step(m)
		}
		winner := slices.IndexFunc(list, func(k *take.Take) bool { return k.Phase() == tick.Done })
		if winner < 0 {
			t.Errorf("order %b: none is Done", order)
			continue
		}
		stands(t, list[winner], tick.Done, 7)
		stands(t, list[1-winner], tick.Full, 0)
		if m.Peek(c.Word(1)) != gone.Pack() || m.Peek(c.Hazard(0)) != 0 || m.Peek(c.Hazard(1)) != 0 {
			t.Errorf("order %b: %v", order, m.Log())
		}
		ends[winner]++
	}
	if ends[0] == 0 || ends[1] == 0 {
		t.Error("not both ends were held")
	}
}

// numbers makes numbers by a rule.
type numbers uint64

func (x *numbers) under(n int) int {
	*x = *x*6364136223846793005 + 1442695040888963407
	return int(*x>>33) % n
}

// reuse lets a place be used once more, as a stranger might: no Value is turned while its Word is Live, and no Word is
// ever again what it was.
func reuse(c C, m *mem.Mem, slot int, x *numbers) {
	was := word.Unpack(m.Peek(c.Word(slot)))
	switch {
	case was.State == word.Live:
		m.Store(stranger, c.Word(slot), was.Taken().Pack())
	case x.under(2) == 0:
		m.Add(stranger, c.Value(slot), 1)
	default:
		m.Store(stranger, c.Word(slot), was.Next(word.Right, stamp.Stamp{}).Pack())
	}
}

// P9.2: if it is Done, the Word was word from its second step to its fourth, and the Value what was in the place at all
// that time; in orders made by a rule of numbers.
func TestAtAllThatTime(t *testing.T) {
	x := numbers(17)
	ends := map[tick.Phase]int{}
	for range 20000 {
		c := C{Threads: 1 + x.under(2), Slots: 1 + x.under(2)}
		slot := x.under(c.All())
		m := cells(c, slot, live, 70)
		k := take.New(c, x.under(c.Threads), slot, live.Pack())
		seldom := 1 + x.under(9)
		held := true
		for i := 0; k.Phase() == tick.Going; i++ {
			for x.under(seldom+1) == 0 {
				reuse(c, m, slot, &x)
			}
			if 1 <= i && i <= 3 && (m.Peek(c.Word(slot)) != live.Pack() || m.Peek(c.Value(slot)) != 70) {
				held = false
			}
			step(t, k, m)
		}
		if held {
			stands(t, k, tick.Done, 70)
		} else {
			stands(t, k, tick.Full, 0)
		}
		ends[k.Phase()]++
	}
	if ends[tick.Done] == 0 || ends[tick.Full] == 0 {
		t.Error("not all ends were held")
	}
}

// P9.1: while it looks at a place, its owner doesn't find that this may be used anew: from the first step to the last one.
func TestGuards(t *testing.T) {
	c := C{Threads: 2, Slots: 2}
	for steps := range 6 {
		m := cells(c, 0, live, 7)
		m.Store(stranger, c.Word(1), live.Pack())
		k := take.New(c, 1, 0, live.Pack())
		for range steps {
			step(t, k, m)
		}
		m.Store(stranger, c.Word(0), gone.Pack())
		owner := claim.New(c, 0)
		for owner.Step(m) == tick.Going {
		}
		want := tick.Full
		if steps == 0 || steps == 5 {
			want = tick.Done
		}
		if owner.Phase() != want {
			t.Errorf("behind %d steps the owner's Phase is %d, want %d", steps, owner.Phase(), want)
		}
	}
}
