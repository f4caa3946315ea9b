package claim_test

import (
	"math"
	"slices"
	"testing"

	"stackyard/claim"
	"stackyard/lay"
	"stackyard/mem"
	"stackyard/stamp"
	"stackyard/tick"
	"stackyard/word"
)

type (
	C = lay.Conf
	E = mem.Event
	W = word.Word
)

// stranger is none of the threads: who turns cells ahead of the steps that are held.
const stranger = -9

// noState is a word whose State is 3, which Pack can't tell.
const noState = 3 | 7<<3

var (
	free = W{}
	live = W{State: word.Live, End: word.Right, Gen: 1, Stamp: stamp.Stamp{Lo: 2, Hi: 3}}
	gone = W{State: word.Gone, End: word.Right, Gen: 4, Stamp: stamp.Stamp{Lo: 5, Hi: 9}}
	worn = W{State: word.Gone, Gen: word.MaxGen}
)

// cells are those of c, with these Words, place by place from first on.
func cells(c C, first int, words ...W) *mem.Mem {
	m := mem.New(c.Cells())
	for i, w := range words {
		m.Store(stranger, c.Word(first+i), w.Pack())
	}
	return m
}

func load(who, cell int, x uint64) E {
	return E{Who: who, Op: mem.Load, Cell: cell, Old: x, New: x, OK: true}
}

// noted is what the threads did.
func noted(m *mem.Mem) []E {
	return slices.DeleteFunc(m.Log(), func(e E) bool { return e.Who == stranger })
}

// stands tells of a Claim that isn't as it should be.
func stands(t *testing.T, k *claim.Claim, phase tick.Phase, slot int, w W) {
	t.Helper()
	if k.Phase() != phase || k.Slot() != slot || k.Word() != w {
		t.Errorf("Phase %d, Slot %d, Word %v, want %d, %d, %v", k.Phase(), k.Slot(), k.Word(), phase, slot, w)
	}
}

// goes does steps, at the places that are told, until it isn't Going any more, and holds that each Loads a cell.
func goes(t *testing.T, k *claim.Claim, m *mem.Mem, slots []int, phase tick.Phase, slot int, w W) {
	t.Helper()
	for i, at := range slots {
		stands(t, k, tick.Going, at, W{})
		was := m.Count()
		if p := k.Step(m); p != k.Phase() {
			t.Errorf("step %d tells Phase %d, it is %d", i, p, k.Phase())
		}
		if m.Count() != was+1 {
			t.Errorf("step %d touches %d cells", i, m.Count()-was)
		}
	}
	stands(t, k, phase, slot, w)
	rests(t, k, m)
}

// rests holds that a Claim that isn't Going does nothing any more.
func rests(t *testing.T, k *claim.Claim, m *mem.Mem) {
	t.Helper()
	phase, slot, w, was := k.Phase(), k.Slot(), k.Word(), m.Count()
	for range 5 {
		if k.Step(m) != phase {
			t.Error("a step behind the last one turns the Phase")
		}
		stands(t, k, phase, slot, w)
	}
	if m.Count() != was {
		t.Error("a step behind the last one touches a cell")
	}
}

// did holds what the threads did.
func did(t *testing.T, m *mem.Mem, want ...E) {
	t.Helper()
	if got := noted(m); !slices.Equal(got, want) {
		t.Errorf("noted is %v\nwant     %v", got, want)
	}
}

// P6.1, P6.2: a new one is Going, at the first of its thread's own places; asking is no step.
func TestNew(t *testing.T) {
	for _, x := range []struct{ threads, slots, who, want int }{
		{1, 1, 0, 0}, {2, 3, 0, 0}, {2, 3, 1, 3}, {3, 1, 2, 2}, {64, 64, 0, 0}, {64, 64, 63, 4032},
	} {
		c := C{Threads: x.threads, Slots: x.slots}
		k := claim.New(c, x.who)
		for range 3 {
			stands(t, k, tick.Going, x.want, W{})
		}
	}
}

// P6.1: the chapter's example: of cells that nobody turned, the thread's first place may be used behind one step.
func TestExample(t *testing.T) {
	for _, c := range []C{{Threads: 1, Slots: 1}, {Threads: 2, Slots: 3, Source: lay.Swap}, {Threads: 64, Slots: 64}} {
		for _, who := range []int{0, c.Threads - 1} {
			m := cells(c, 0)
			goes(t, claim.New(c, who), m, []int{c.First(who)}, tick.Done, c.First(who), W{})
			did(t, m, load(who, c.Word(c.First(who)), 0))
		}
	}
}

// P6.1: which Words a place may be used by, and behind how many steps, while nobody looks at it.
func TestWords(t *testing.T) {
	c := C{Threads: 3, Slots: 1}
	wide := stamp.Stamp{Lo: stamp.Top, Hi: 7}
	for _, x := range []struct {
		word  uint64
		steps int
		phase tick.Phase
		want  W
	}{
		{0, 1, tick.Done, W{}},
		{W{End: word.Right, Gen: 12, Stamp: wide}.Pack(), 1, tick.Done, W{End: word.Right, Gen: 12, Stamp: wide}},
		{W{Gen: word.MaxGen - 1}.Pack(), 1, tick.Done, W{Gen: word.MaxGen - 1}},
		{W{Gen: word.MaxGen}.Pack(), 1, tick.Full, W{}},
		{gone.Pack(), 4, tick.Done, gone},
		{W{State: word.Gone}.Pack(), 4, tick.Done, W{State: word.Gone}},
		{W{State: word.Gone, Gen: word.MaxGen - 1, Stamp: wide}.Pack(), 4, tick.Done, W{State: word.Gone, Gen: word.MaxGen - 1, Stamp: wide}},
		{worn.Pack(), 1, tick.Full, W{}},
		{live.Pack(), 1, tick.Full, W{}},
		{W{State: word.Live, Gen: word.MaxGen}.Pack(), 1, tick.Full, W{}},
		{noState, 1, tick.Full, W{}},
		{3, 1, tick.Full, W{}},
		{math.MaxUint64, 1, tick.Full, W{}},
	} {
		m := cells(c, 0)
		m.Store(stranger, c.Word(1), x.word)
		goes(t, claim.New(c, 1), m, slices.Repeat([]int{1}, x.steps), x.phase, 1, x.want)
		want := []E{load(1, c.Word(1), x.word)}
		for i := range x.steps - 1 {
			want = append(want, load(1, c.Hazard(i), 0))
		}
		did(t, m, want...)
	}
}

// P6.1: of a place that is Gone the Hazards of all threads are Loaded, in order, up to the first one that is its number and 1.
func TestHazards(t *testing.T) {
	c := C{Threads: 4, Slots: 3}
	const slot, at = 8, 9 // the third thread's last place, and its number and 1
	for _, x := range []struct {
		hazards [4]uint64
		steps   int
		phase   tick.Phase
	}{
		{[4]uint64{}, 5, tick.Done},
		{[4]uint64{slot, slot, slot, slot}, 5, tick.Done},
		{[4]uint64{at + 1, at + 1, at + 1, at + 1}, 5, tick.Done},
		{[4]uint64{1, 2, 3, 4}, 5, tick.Done},
		{[4]uint64{3, 3, 3, 3}, 5, tick.Done}, // of the thread's places it is the third one
		{[4]uint64{at + 1<<32, at + 1<<63, math.MaxUint64, at + 1<<13}, 5, tick.Done},
		{[4]uint64{at, 0, 0, 0}, 2, tick.Full},
		{[4]uint64{0, at, 0, 0}, 3, tick.Full},
		{[4]uint64{0, 0, at, 0}, 4, tick.Full}, // its own one
		{[4]uint64{7, 8, 10, at}, 5, tick.Full},
		{[4]uint64{0, at, at, at}, 3, tick.Full},
		{[4]uint64{at, at, at, at}, 2, tick.Full},
	} {
		m := cells(c, 6, live, live, gone)
		for i, h := range x.hazards {
			m.Store(stranger, c.Hazard(i), h)
		}
		want := []E{load(2, c.Word(6), live.Pack()), load(2, c.Word(7), live.Pack()), load(2, c.Word(8), gone.Pack())}
		for i := range x.steps - 1 {
			want = append(want, load(2, c.Hazard(i), x.hazards[i]))
		}
		w := gone
		if x.phase == tick.Full {
			w = W{}
		}
		goes(t, claim.New(c, 2), m, append([]int{6, 7}, slices.Repeat([]int{slot}, x.steps)...), x.phase, slot, w)
		did(t, m, want...)
	}
}

// P6.1, P6.2: from place to place, of its own ones alone: Full behind the last one, and there it stays.
func TestWalk(t *testing.T) {
	c := C{Threads: 3, Slots: 4}
	for _, x := range []struct {
		words  []W // of the places 4 to 7; all others are Free
		hazard uint64
		slots  []int
		phase  tick.Phase
		slot   int
		want   W
	}{
		{[]W{free, gone, live, worn}, 0, []int{4}, tick.Done, 4, W{}},
		{[]W{live, free, free, free}, 0, []int{4, 5}, tick.Done, 5, W{}},
		{[]W{live, live, live, free}, 0, []int{4, 5, 6, 7}, tick.Done, 7, W{}},
		{[]W{live, live, live, live}, 0, []int{4, 5, 6, 7}, tick.Full, 7, W{}},
		{[]W{worn, {Gen: word.MaxGen}, live, worn}, 0, []int{4, 5, 6, 7}, tick.Full, 7, W{}},
		{[]W{live, gone, free, free}, 0, []int{4, 5, 5, 5, 5}, tick.Done, 5, gone},
		{[]W{gone, live, gone, live}, 5, []int{4, 4, 5, 6, 6, 6, 6}, tick.Done, 6, gone},
		{[]W{gone, gone, free, gone}, 5, []int{4, 4, 5, 5, 5, 5}, tick.Done, 5, gone},
		{[]W{gone, {Gen: 3}, free, gone}, 5, []int{4, 4, 5}, tick.Done, 5, W{Gen: 3}},
		{[]W{gone, live, worn, live}, 5, []int{4, 4, 5, 6, 7}, tick.Full, 7, W{}},
		{[]W{live, live, live, gone}, 8, []int{4, 5, 6, 7, 7}, tick.Full, 7, W{}},
		{[]W{live, live, live, gone}, 4, []int{4, 5, 6, 7, 7, 7, 7}, tick.Done, 7, gone},
	} {
		m := cells(c, 4, x.words...)
		m.Store(stranger, c.Hazard(0), x.hazard)
		goes(t, claim.New(c, 1), m, x.slots, x.phase, x.slot, x.want)
		for _, e := range noted(m) {
			kind, n := c.Kind(e.Cell)
			if e.Who != 1 || e.Op != mem.Load || kind == lay.OfWord && c.Owner(n) != 1 {
				t.Errorf("%v: %v", x.words, e)
			}
		}
	}
}

// P6.1, P6.2: what counts is what a cell was when it was Loaded.
func TestMeanwhile(t *testing.T) {
	c := C{Threads: 3, Slots: 2}
	m := cells(c, 2, gone, live)
	k := claim.New(c, 1)
	k.Step(m)
	m.Store(stranger, c.Word(2), live.Pack()) // Loaded already
	m.Store(stranger, c.Hazard(1), 3)
	k.Step(m)
	m.Store(stranger, c.Hazard(0), 3) // so is this
	m.Store(stranger, c.Hazard(1), 0) // this isn't yet
	goes(t, k, m, []int{2, 2}, tick.Done, 2, gone)
	did(t, m, load(1, c.Word(2), gone.Pack()), load(1, c.Hazard(0), 0), load(1, c.Hazard(1), 0), load(1, c.Hazard(2), 0))

	m = cells(c, 2, gone, live)
	k = claim.New(c, 1)
	k.Step(m)
	k.Step(m)
	k.Step(m)
	m.Store(stranger, c.Hazard(2), 3)
	m.Store(stranger, c.Word(3), W{Gen: 6}.Pack())
	goes(t, k, m, []int{2, 3}, tick.Done, 3, W{Gen: 6})
	did(t, m, load(1, c.Word(2), gone.Pack()), load(1, c.Hazard(0), 0), load(1, c.Hazard(1), 0), load(1, c.Hazard(2), 3),
		load(1, c.Word(3), W{Gen: 6}.Pack()))
}

// P6.1: what it does hangs on the cells that it is handed at that step.
func TestOtherCells(t *testing.T) {
	c := C{Threads: 2, Slots: 2}
	a, b := cells(c, 0, gone), cells(c, 0, live, live)
	b.Store(stranger, c.Hazard(0), 1)
	k := claim.New(c, 0)
	k.Step(a)
	k.Step(b)
	goes(t, k, a, []int{1}, tick.Done, 1, W{})
	did(t, a, load(0, c.Word(0), gone.Pack()), load(0, c.Word(1), 0))
	did(t, b, load(0, c.Hazard(0), 1))
}

// P6.1: two of them, even of one thread, have nothing in common.
func TestTwo(t *testing.T) {
	c := C{Threads: 1, Slots: 3}
	m := cells(c, 0, live, gone, gone)
	a, b := claim.New(c, 0), claim.New(c, 0)
	a.Step(m)
	a.Step(m)
	stands(t, a, tick.Going, 1, W{})
	stands(t, b, tick.Going, 0, W{})
	goes(t, b, m, []int{0, 1, 1}, tick.Done, 1, gone)
	goes(t, a, m, []int{1}, tick.Done, 1, gone)
}

// P6.2: Most, of Confs at the bounds, whatever else they are.
func TestMost(t *testing.T) {
	for _, x := range []struct{ threads, slots, want int }{
		{1, 1, 2}, {1, 2, 4}, {2, 1, 3}, {2, 3, 9}, {3, 2, 8}, {1, 64, 128}, {64, 1, 65}, {64, 64, 4160},
	} {
		for source := lay.Count; source <= lay.Wide; source++ {
			for _, delay := range []int{0, 100} {
				c := C{Threads: x.threads, Slots: x.slots, Source: source, Delay: delay}
				if got := claim.Most(c); got != x.want {
					t.Errorf("%v Most: %d, want %d", c, got, x.want)
				}
			}
		}
	}
}

// P6.2: so many steps may be taken: if the last thread looks, ever anew, at the place that is looked at.
func TestMostIsTaken(t *testing.T) {
	for _, c := range []C{{Threads: 1, Slots: 1}, {Threads: 1, Slots: 3}, {Threads: 4, Slots: 1}, {Threads: 3, Slots: 5}, {Threads: 64, Slots: 64}} {
		for _, last := range []tick.Phase{tick.Done, tick.Full} {
			who := c.Threads - 1
			m := cells(c, c.First(who), slices.Repeat([]W{gone}, c.Slots)...)
			k := claim.New(c, who)
			steps := 0
			for k.Phase() == tick.Going && steps <= claim.Most(c) {
				h := uint64(k.Slot() + 1)
				if last == tick.Done && k.Slot() == c.First(who)+c.Slots-1 {
					h = 0
				}
				m.Store(stranger, c.Hazard(who), h)
				k.Step(m)
				steps++
			}
			if steps != claim.Most(c) || k.Phase() != last {
				t.Errorf("%v: Phase %d behind %d steps", c, k.Phase(), steps)
			}
		}
	}
}

// should is what a Claim Loads, and how it ends, on cells that nobody turns: told place by place, not step by step.
func should(c C, who int, m *mem.Mem) (list []E, phase tick.Phase, slot int, w W) {
	for slot = c.First(who); slot < c.First(who+1); slot++ {
		x := m.Peek(c.Word(slot))
		list = append(list, load(who, c.Word(slot), x))
		w = word.Unpack(x)
		if w.Gen == word.MaxGen || w.State != word.Free && w.State != word.Gone {
			continue
		}
		free := true
		for i := 0; w.State == word.Gone && free && i < c.Threads; i++ {
			h := m.Peek(c.Hazard(i))
			list = append(list, load(who, c.Hazard(i), h))
			free = h != uint64(slot+1)
		}
		if free {
			return list, tick.Done, slot, w
		}
	}
	return list, tick.Full, slot - 1, W{}
}

// P6.1, P6.2: on many cells, made by a rule of numbers.
func TestMany(t *testing.T) {
	x := uint64(5)
	pick := func(n int) int {
		x = x*6364136223846793005 + 1442695040888963407
		return int(x>>33) % n
	}
	words := []uint64{free.Pack(), live.Pack(), gone.Pack(), gone.Pack(), gone.Pack(), worn.Pack(), W{Gen: word.MaxGen}.Pack(), noState}
	ends := map[tick.Phase]int{}
	for range 3000 {
		c := C{Threads: 1 + pick(4), Slots: 1 + pick(5)}
		m := cells(c, 0)
		for i := range c.All() {
			m.Store(stranger, c.Word(i), words[pick(len(words))])
		}
		for i := range c.Threads {
			m.Store(stranger, c.Hazard(i), uint64(pick(c.All()+2)))
		}
		who := pick(c.Threads)
		want, phase, slot, w := should(c, who, m)
		k := claim.New(c, who)
		for range want {
			if k.Phase() != tick.Going {
				t.Errorf("%v: Phase %d", c, k.Phase())
			}
			k.Step(m)
		}
		stands(t, k, phase, slot, w)
		rests(t, k, m)
		did(t, m, want...)
		if len(want) > claim.Most(c) {
			t.Errorf("%v: more steps than Most", c)
		}
		ends[phase]++
	}
	if ends[tick.Done] == 0 || ends[tick.Full] == 0 {
		t.Error("not all ends were held")
	}
}
