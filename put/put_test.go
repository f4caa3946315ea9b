package put_test

import (
	"math"
	"slices"
	"testing"

	"stackyard/claim"
	"stackyard/lay"
	"stackyard/mem"
	"stackyard/put"
	"stackyard/stamp"
	"stackyard/tick"
	"stackyard/word"
)

type (
	C = lay.Conf
	E = mem.Event
	S = stamp.Stamp
	W = word.Word
)

const top = math.MaxUint64

// stranger is none of the threads: who turns cells beside the steps that are held.
const stranger = -9

var (
	live = W{State: word.Live, End: word.Right, Gen: 1, Stamp: S{Lo: 2, Hi: 3}}
	gone = W{State: word.Gone, End: word.Right, Gen: 4, Stamp: S{Lo: 5, Hi: 9}}
	worn = W{State: word.Gone, Gen: word.MaxGen}
)

// cells are those of c, with these Words, place by place from 0 on.
func cells(c C, words ...W) *mem.Mem {
	m := mem.New(c.Cells())
	for i, w := range words {
		m.Store(stranger, c.Word(i), w.Pack())
	}
	return m
}

func fromTo(lo, hi int) S { return S{Lo: lo, Hi: hi} }

func load(who, cell int, x uint64) E {
	return E{Who: who, Op: mem.Load, Cell: cell, Old: x, New: x, OK: true}
}

func store(who, cell int, was, x uint64) E {
	return E{Who: who, Op: mem.Store, Cell: cell, Old: was, New: x, OK: true}
}

func swap(who, cell int, was, x uint64) E {
	return E{Who: who, Op: mem.Swap, Cell: cell, Old: was, New: x, OK: true}
}

func add(who, cell int, was uint64) E {
	return E{Who: who, Op: mem.Add, Cell: cell, Old: was, New: was + 1, OK: true}
}

// noted is what the threads did.
func noted(m *mem.Mem) []E {
	return slices.DeleteFunc(m.Log(), func(e E) bool { return e.Who == stranger })
}

// did holds what the threads did.
func did(t *testing.T, m *mem.Mem, want ...E) {
	t.Helper()
	if got := noted(m); !slices.Equal(got, want) {
		t.Errorf("noted is %v\nwant     %v", got, want)
	}
}

// stands tells of a Put that isn't as it should be.
func stands(t *testing.T, p *put.Put, phase tick.Phase, slot int, s S) {
	t.Helper()
	if p.Phase() != phase || p.Slot() != slot || p.Stamp() != s {
		t.Errorf("Phase %d, Slot %d, Stamp %v, want %d, %d, %v", p.Phase(), p.Slot(), p.Stamp(), phase, slot, s)
	}
}

// step does a step of one that is Going, and holds that it touches one cell at most.
func step(t *testing.T, p *put.Put, m *mem.Mem, now int) {
	t.Helper()
	stands(t, p, tick.Going, -1, S{})
	was := m.Count()
	if phase := p.Step(m, now); phase != p.Phase() {
		t.Errorf("a step tells Phase %d, it is %d", phase, p.Phase())
	}
	if m.Count() > was+1 {
		t.Errorf("a step touches %d cells", m.Count()-was)
	}
}

// goes does the steps that are left, one at each time from now on, and holds how it ends.
func goes(t *testing.T, p *put.Put, m *mem.Mem, now, steps int, phase tick.Phase, slot int, s S) {
	t.Helper()
	for i := range steps {
		step(t, p, m, now+i)
	}
	stands(t, p, phase, slot, s)
	rests(t, p, m, now+steps)
}

// rests holds that a Put that isn't Going does nothing any more.
func rests(t *testing.T, p *put.Put, m *mem.Mem, now int) {
	t.Helper()
	phase, slot, s, was := p.Phase(), p.Slot(), p.Stamp(), m.Count()
	for i := range 6 {
		if p.Step(m, now+i) != phase {
			t.Error("a step behind the last one turns the Phase")
		}
		stands(t, p, phase, slot, s)
	}
	if m.Count() != was {
		t.Error("a step behind the last one touches a cell")
	}
}

// keeps holds that no thread turned a Word or a Value.
func keeps(t *testing.T, c C, m *mem.Mem) {
	t.Helper()
	for _, e := range noted(m) {
		if kind, _ := c.Kind(e.Cell); e.Op != mem.Load && (kind == lay.OfWord || kind == lay.OfValue) {
			t.Errorf("%v: %v", c, e)
		}
	}
}

// P10.1, P10.2: a new one is Going, in no place, without a stamp; asking is no step.
func TestNew(t *testing.T) {
	for source := lay.Count; source <= lay.Wide; source++ {
		for _, c := range []C{{Threads: 1, Slots: 1, Source: source}, {Threads: 64, Slots: 64, Source: source, Delay: 100}} {
			p := put.New(c, c.Threads-1, word.Right, 7)
			for range 3 {
				stands(t, p, tick.Going, -1, S{})
			}
		}
	}
}

// P10.1: the chapter's example, and what is noted: by Count the first value is in behind 4 steps.
func TestExample(t *testing.T) {
	for _, c := range []C{{Threads: 1, Slots: 1}, {Threads: 2, Slots: 3}, {Threads: 3, Slots: 1, Delay: 5}, {Threads: 64, Slots: 64}} {
		for _, who := range []int{0, c.Threads - 1} {
			for _, end := range []word.End{word.Left, word.Right} {
				for _, value := range []uint64{0, 1, 7, top} {
					m := cells(c)
					slot := c.First(who)
					goes(t, put.New(c, who, end, value), m, 3, 4, tick.Done, slot, S{})
					did(t, m,
						load(who, c.Word(slot), 0),
						add(who, c.Number(0), 0),
						store(who, c.Value(slot), 0, value),
						store(who, c.Word(slot), 0, W{State: word.Live, End: end, Gen: 1}.Pack()))
				}
			}
		}
	}
}

// P10.1: by each Source: the steps of the stamp stand between those of the Claim and the Store of the Value.
func TestSources(t *testing.T) {
	conf := func(source lay.Source, delay int) C {
		return C{Threads: 3, Slots: 2, Source: source, Delay: delay}
	}
	number := conf(lay.Count, 0).Number
	for _, x := range []struct {
		c     C
		now   int
		steps int
		stamp S
		did   []E
	}{
		{conf(lay.Count, 0), 0, 4, fromTo(40, 40), []E{add(1, number(0), 40)}},
		{conf(lay.Stutter, 0), 0, 7, fromTo(51, 51), []E{load(1, number(0), 40), load(1, number(1), 50), load(1, number(2), 0), store(1, number(1), 50, 51)}},
		{conf(lay.Swap, 0), 0, 6, fromTo(40, 40), []E{load(1, number(0), 40), load(1, number(0), 40), swap(1, number(0), 40, 41)}},
		{conf(lay.Clock, 0), 0, 4, fromTo(1, 1), nil},
		{conf(lay.Clock, 9), 70, 4, fromTo(71, 71), nil},
		{conf(lay.Wide, 0), 0, 5, fromTo(1, 2), nil},
		{conf(lay.Wide, 3), 70, 8, fromTo(71, 75), nil},
		{conf(lay.Wide, 100), 70, 105, fromTo(71, 172), nil},
	} {
		m := cells(x.c)
		m.Store(stranger, number(0), 40)
		m.Store(stranger, number(1), 50)
		goes(t, put.New(x.c, 1, word.Right, 7), m, x.now, x.steps, tick.Done, 2, x.stamp)
		w := W{State: word.Live, End: word.Right, Gen: 1, Stamp: x.stamp}
		did(t, m, slices.Concat([]E{load(1, x.c.Word(2), 0)}, x.did,
			[]E{store(1, x.c.Value(2), 0, 7), store(1, x.c.Word(2), 0, w.Pack())})...)
	}
}

// P10.1: the time is that of the stamp's own steps, not of those of the Claim, nor of those behind it.
func TestTime(t *testing.T) {
	for _, x := range []struct {
		source lay.Source
		times  []int
		want   S
	}{
		{lay.Clock, []int{5, 9, 30, 31}, fromTo(9, 9)},
		{lay.Clock, []int{0, 0, 0, 0}, S{}},
		{lay.Clock, []int{stamp.Top + 8, stamp.Top - 1, math.MaxInt, math.MaxInt}, fromTo(stamp.Top-1, stamp.Top-1)},
		{lay.Wide, []int{5, 9, 13, 20, 30, 31}, fromTo(9, 20)},
		{lay.Wide, []int{5, 9, 9, 9, 30, 31}, fromTo(9, 9)},
	} {
		c := C{Threads: 1, Slots: 1, Source: x.source, Delay: 1}
		m := cells(c)
		p := put.New(c, 0, word.Left, 7)
		for _, now := range x.times {
			step(t, p, m, now)
		}
		stands(t, p, tick.Done, 0, x.want)
		if got := word.Unpack(m.Peek(c.Word(0))).Stamp; got != x.want {
			t.Errorf("the Word's Stamp is %v, want %v", got, x.want)
		}
	}
}

// P10.1: it is put into the place that a Claim finds; the Word is the Next one of what that was.
func TestPlaces(t *testing.T) {
	c := C{Threads: 2, Slots: 3}
	looked := uint64(4) // at the second thread's first place
	for _, x := range []struct {
		words  [3]W // of the second thread's places
		hazard uint64
		slot   int
		loads  int
		gen    int
	}{
		{[3]W{}, 0, 3, 1, 1},
		{[3]W{}, looked, 3, 1, 1}, // a Free one isn't guarded
		{[3]W{live}, 0, 4, 2, 1},
		{[3]W{live, live}, 0, 5, 3, 1},
		{[3]W{gone}, 0, 3, 3, 5},
		{[3]W{gone, gone}, looked, 4, 5, 5},
		{[3]W{gone}, looked, 4, 3, 1},
		{[3]W{worn, live, gone}, 0, 5, 5, 5},
		{[3]W{worn, live, {Gen: 7, Stamp: S{Lo: 3, Hi: 4}}}, 0, 5, 3, 8},
		{[3]W{worn, live, {State: word.Gone, Gen: word.MaxGen - 1}}, 0, 5, 5, word.MaxGen},
		{[3]W{{Gen: word.MaxGen - 1}}, 0, 3, 1, word.MaxGen},
		{[3]W{{Gen: word.MaxGen}}, 0, 4, 2, 1},
	} {
		for _, end := range []word.End{word.Left, word.Right} {
			m := cells(c, append([]W{live, live, live}, x.words[:]...)...)
			m.Store(stranger, c.Hazard(0), x.hazard)
			m.Store(stranger, c.Number(0), 20)
			m.Store(stranger, c.Value(x.slot), 9)
			was := m.Peek(c.Word(x.slot))
			goes(t, put.New(c, 1, end, 7), m, 0, x.loads+3, tick.Done, x.slot, fromTo(20, 20))
			next := W{State: word.Live, End: end, Gen: x.gen, Stamp: fromTo(20, 20)}
			if got := noted(m)[x.loads:]; !slices.Equal(got, []E{
				add(1, c.Number(0), 20), store(1, c.Value(x.slot), 9, 7), store(1, c.Word(x.slot), was, next.Pack()),
			}) {
				t.Errorf("%v: noted is %v", x.words, got)
			}
		}
	}
}

// P10.1, P10.2: without a place it is Full behind the Claim's last step: no stamp is made, and nothing is turned.
func TestNoPlace(t *testing.T) {
	c := C{Threads: 2, Slots: 2}
	for source := lay.Count; source <= lay.Wide; source++ {
		c.Source = source
		for _, x := range []struct {
			words  []W
			hazard uint64
			steps  int
		}{
			{[]W{live, live}, 0, 2},
			{[]W{worn, live}, 0, 2},
			{[]W{worn, {Gen: word.MaxGen}}, 0, 2},
			{[]W{gone, live}, 1, 3},
			{[]W{live, gone}, 2, 3},
		} {
			m := cells(c, x.words...) // those of the other thread are Free
			m.Store(stranger, c.Hazard(0), x.hazard)
			goes(t, put.New(c, 0, word.Left, 7), m, 0, x.steps, tick.Full, -1, S{})
			for _, e := range noted(m) {
				if e.Op != mem.Load {
					t.Errorf("%v: %v", x.words, e)
				}
			}
		}
	}
}

// P10.1, P10.2: without a stamp it is Full behind the stamp's last step, and no Word and no Value is turned.
func TestNoStamp(t *testing.T) {
	conf := func(source lay.Source) C { return C{Threads: 2, Slots: 1, Source: source} }
	for _, x := range []struct {
		c      C
		number uint64
		now    int
		steps  int
		phase  tick.Phase
		last   int // what the stamp is from and to, if there is one
	}{
		{conf(lay.Count), stamp.Top - 1, 0, 4, tick.Done, stamp.Top - 1},
		{conf(lay.Count), stamp.Top, 0, 2, tick.Full, 0},
		{conf(lay.Count), top, 0, 2, tick.Full, 0},
		{conf(lay.Stutter), stamp.Top - 2, 0, 6, tick.Done, stamp.Top - 1},
		{conf(lay.Stutter), stamp.Top - 1, 0, 4, tick.Full, 0},
		{conf(lay.Swap), stamp.Top - 1, 0, 6, tick.Done, stamp.Top - 1},
		{conf(lay.Swap), stamp.Top, 0, 2, tick.Full, 0},
		{conf(lay.Clock), 0, stamp.Top - 2, 4, tick.Done, stamp.Top - 1},
		{conf(lay.Clock), 0, stamp.Top - 1, 2, tick.Full, 0},
		{conf(lay.Clock), 0, math.MaxInt - 9, 2, tick.Full, 0},
		{conf(lay.Wide), 0, stamp.Top - 2, 3, tick.Full, 0},
	} {
		m := cells(x.c)
		m.Store(stranger, x.c.Number(0), x.number)
		p := put.New(x.c, 1, word.Right, 7)
		if x.phase == tick.Done {
			goes(t, p, m, x.now, x.steps, tick.Done, 1, fromTo(x.last, x.last))
			continue
		}
		goes(t, p, m, x.now, x.steps, tick.Full, -1, S{})
		keeps(t, x.c, m)
	}
}

// P10.1: no step but the last but one turns a Value, none but the last one a Word: what is Live has its Value.
func TestValueAhead(t *testing.T) {
	for source := lay.Count; source <= lay.Wide; source++ {
		c := C{Threads: 2, Slots: 2, Source: source, Delay: 3}
		m := cells(c, gone)
		steps := 3 + c.Threads - 1 + tick.Most(c) + 1
		if source == lay.Swap {
			steps-- // alone its stamp takes one step less
		}
		p := put.New(c, 0, word.Right, 7)
		for i := range steps {
			value := uint64(0)
			if i == steps-1 {
				value = 7
			}
			if m.Peek(c.Value(0)) != value || m.Peek(c.Word(0)) != gone.Pack() {
				t.Errorf("Source %d: behind %d steps the Value is %d, the Word %x", source, i, m.Peek(c.Value(0)), m.Peek(c.Word(0)))
			}
			step(t, p, m, i)
		}
		if p.Phase() != tick.Done || word.Unpack(m.Peek(c.Word(0))).State != word.Live {
			t.Errorf("Source %d: Phase %d behind %d steps", source, p.Phase(), steps)
		}
	}
}

// P10.1: what counts is what a cell was when it was Loaded: the Word is the Next one of that which was claimed.
func TestMeanwhile(t *testing.T) {
	c := C{Threads: 2, Slots: 2}
	m := cells(c, gone)
	p := put.New(c, 0, word.Left, 7)
	step(t, p, m, 0)
	m.Store(stranger, c.Word(0), live.Pack()) // Loaded already
	step(t, p, m, 0)
	m.Store(stranger, c.Hazard(0), 1) // so is this
	step(t, p, m, 0)
	m.Store(stranger, c.Hazard(1), 1) // and this
	m.Store(stranger, c.Number(0), 11)
	step(t, p, m, 0)
	m.Store(stranger, c.Number(0), 30)
	m.Store(stranger, c.Value(0), 5)
	step(t, p, m, 0)
	m.Store(stranger, c.Value(0), 6)
	goes(t, p, m, 0, 1, tick.Done, 0, fromTo(11, 11))
	next := W{State: word.Live, Gen: 5, Stamp: fromTo(11, 11)}
	did(t, m, load(0, c.Word(0), gone.Pack()), load(0, c.Hazard(0), 0), load(0, c.Hazard(1), 0),
		add(0, c.Number(0), 11), store(0, c.Value(0), 5, 7), store(0, c.Word(0), live.Pack(), next.Pack()))
}

// P10.1: what it does hangs on the cells that it is handed at that step.
func TestOtherCells(t *testing.T) {
	c := C{Threads: 1, Slots: 2}
	a, b := cells(c, live), cells(c)
	a.Store(stranger, c.Number(0), 3)
	b.Store(stranger, c.Number(0), 4)
	p := put.New(c, 0, word.Left, 7)
	for _, m := range []*mem.Mem{a, b, b, a, b} {
		step(t, p, m, 0)
	}
	stands(t, p, tick.Done, 1, fromTo(4, 4))
	did(t, a, load(0, c.Word(0), live.Pack()), store(0, c.Value(1), 0, 7))
	did(t, b, load(0, c.Word(1), 0), add(0, c.Number(0), 4), store(0, c.Word(1), 0, W{State: word.Live, Gen: 1, Stamp: fromTo(4, 4)}.Pack()))
}

// P10.1: one behind the other a thread's places are filled, in order, until there is none.
func TestFill(t *testing.T) {
	c := C{Threads: 2, Slots: 4}
	m := cells(c)
	for i := range c.Slots {
		goes(t, put.New(c, 1, word.End(i%2), uint64(i)), m, 0, 4+i, tick.Done, 4+i, fromTo(i, i))
	}
	goes(t, put.New(c, 1, word.Right, 9), m, 0, 4, tick.Full, -1, S{})
	for i := range c.Slots {
		want := W{State: word.Live, End: word.End(i % 2), Gen: 1, Stamp: fromTo(i, i)}
		if got := m.Peek(c.Word(4 + i)); got != want.Pack() || m.Peek(c.Value(4+i)) != uint64(i) {
			t.Errorf("place %d: %v, %d", 4+i, word.Unpack(got), m.Peek(c.Value(4+i)))
		}
	}
}

// P10.1: two threads put in within each other: each into a place of its own, with a stamp of its own.
func TestWithin(t *testing.T) {
	c := C{Threads: 2, Slots: 1}
	m := cells(c)
	a, b := put.New(c, 0, word.Right, 1), put.New(c, 1, word.Right, 2)
	step(t, a, m, 0)
	goes(t, b, m, 0, 4, tick.Done, 1, fromTo(0, 0))
	goes(t, a, m, 0, 3, tick.Done, 0, fromTo(1, 1))
}

// P10.2: Most is that of the Claim, and that of the stamp, and 2.
func TestMost(t *testing.T) {
	for _, x := range []struct {
		c    C
		want int
	}{
		{C{Threads: 1, Slots: 1}, 5},
		{C{Threads: 2, Slots: 2}, 9},
		{C{Threads: 2, Slots: 2, Delay: 100}, 9},
		{C{Threads: 2, Slots: 3, Source: lay.Stutter}, 14},
		{C{Threads: 3, Slots: 2, Source: lay.Swap}, 14},
		{C{Threads: 2, Slots: 3, Source: lay.Clock, Delay: 7}, 12},
		{C{Threads: 1, Slots: 1, Source: lay.Wide}, 6},
		{C{Threads: 2, Slots: 1, Source: lay.Wide, Delay: 100}, 107},
		{C{Threads: 64, Slots: 64}, 4163},
		{C{Threads: 64, Slots: 64, Source: lay.Stutter}, 4227},
	} {
		if got := put.Most(x.c); got != x.want {
			t.Errorf("%v Most: %d, want %d", x.c, got, x.want)
		}
	}
}

// P10.2: so many steps may be taken: if somebody looks, ever anew, at the place that is looked at, but for the last one.
func TestMostIsTaken(t *testing.T) {
	for source := lay.Count; source <= lay.Wide; source++ {
		for _, c := range []C{{Threads: 1, Slots: 1}, {Threads: 3, Slots: 1}, {Threads: 2, Slots: 3}, {Threads: 64, Slots: 64}} {
			c.Source, c.Delay = source, 4
			who := c.Threads - 1
			m := cells(c, slices.Repeat([]W{gone}, c.All())...)
			p := put.New(c, who, word.Right, 7)
			steps := 0
			for ; p.Phase() == tick.Going && steps <= put.Most(c); steps++ {
				slot := c.First(who) + steps/(c.Threads+1)
				m.Store(stranger, c.Hazard(who), uint64(slot+1))
				if slot == c.First(who)+c.Slots-1 {
					m.Store(stranger, c.Hazard(who), 0)
				}
				// By Swap the last step of the stamp is taken only if the counter is turned behind its being Loaded again.
				if source == lay.Swap && steps == claim.Most(c)+2 {
					m.Add(stranger, c.Number(0), 1)
				}
				p.Step(m, steps)
			}
			if steps != put.Most(c) || p.Phase() != tick.Done {
				t.Errorf("%v: Phase %d behind %d steps, want %d", c, p.Phase(), steps, put.Most(c))
			}
		}
	}
}

// numbers makes numbers by a rule.
type numbers uint64

func (x *numbers) under(n int) int {
	*x = *x*6364136223846793005 + 1442695040888963407
	return int(*x>>33) % n
}

// randomCells are cells of some c: Words, Hazards and Numbers of all kinds.
func (x *numbers) randomCells() (C, *mem.Mem) {
	c := C{Threads: 1 + x.under(4), Slots: 1 + x.under(4), Source: lay.Source(x.under(5)), Delay: x.under(4)}
	m := cells(c)
	words := []W{{}, {Gen: 3}, live, live, gone, gone, gone, worn, {Gen: word.MaxGen}}
	few := []uint64{0, 7, 90, stamp.Top - 2, stamp.Top - 1, stamp.Top}
	for i := range c.All() {
		m.Store(stranger, c.Word(i), words[x.under(len(words))].Pack())
	}
	for i := range c.Threads {
		m.Store(stranger, c.Hazard(i), uint64(x.under(c.All()+2)))
		m.Store(stranger, c.Number(i), few[x.under(len(few))])
	}
	return c, m
}

// should does to cells what a Put alone does, part by part: how many steps that is, and how it ends.
func should(c C, who int, end word.End, value uint64, m *mem.Mem, now int) (steps int, phase tick.Phase, slot int, s S) {
	k := claim.New(c, who)
	for ; k.Phase() == tick.Going; steps++ {
		k.Step(m)
	}
	if k.Phase() == tick.Full {
		return steps, tick.Full, -1, S{}
	}
	d := tick.New(c, who)
	for ; d.Phase() == tick.Going; steps++ {
		d.Step(m, now+steps)
	}
	if d.Phase() == tick.Full {
		return steps, tick.Full, -1, S{}
	}
	m.Store(who, c.Value(k.Slot()), value)
	m.Store(who, c.Word(k.Slot()), W{State: word.Live, End: end, Gen: k.Word().Gen + 1, Stamp: d.Stamp()}.Pack())
	return steps + 2, tick.Done, k.Slot(), d.Stamp()
}

// P10.1, P10.2: on many cells, made by a rule of numbers.
func TestMany(t *testing.T) {
	x := numbers(3)
	ends := map[tick.Phase]int{}
	for range 3000 {
		c, m := x.randomCells()
		other, _ := mem.Back(c.Cells(), m.Log())
		who, end, value, now := x.under(c.Threads), word.End(x.under(2)), uint64(x.under(100)), x.under(50)
		if x.under(4) == 0 {
			now = stamp.Top - x.under(9)
		}
		steps, phase, slot, s := should(c, who, end, value, other, now)
		goes(t, put.New(c, who, end, value), m, now, steps, phase, slot, s)
		did(t, m, noted(other)...)
		if steps > put.Most(c) {
			t.Errorf("%v: %d steps, more than Most", c, steps)
		}
		if phase == tick.Full {
			keeps(t, c, m)
		}
		ends[phase]++
	}
	if ends[tick.Done] == 0 || ends[tick.Full] == 0 {
		t.Error("not all ends were held")
	}
}

// deed is a Put of a thread in a run of many, with the moments of its first and last step.
type deed struct {
	put      *put.Put
	value    uint64
	from, to int
}

// P10.1, P10.2: of many threads at once, in orders made by a rule of numbers: each value is in a place of its own that
// is its thread's, no Put takes more than Most steps, and the stamp of one that was over ahead of another one's
// beginning is Before that one's.
func TestAtOnce(t *testing.T) {
	x := numbers(8)
	for range 300 {
		c := C{Threads: 1 + x.under(4), Slots: 1 + x.under(3), Source: lay.Source(x.under(5)), Delay: x.under(4)}
		m := cells(c)
		var over []deed
		now := make([]*deed, c.Threads)
		steps := make([]int, c.Threads)
		for moment := range 400 {
			who := x.under(c.Threads)
			if now[who] == nil {
				now[who] = &deed{value: uint64(moment + 1), from: moment, put: put.New(c, who, word.End(x.under(2)), uint64(moment+1))}
				steps[who] = 0
			}
			steps[who]++
			if now[who].put.Step(m, moment) == tick.Going {
				continue
			}
			if steps[who] > put.Most(c) {
				t.Errorf("%v: %d steps, more than Most", c, steps[who])
			}
			now[who].to = moment
			if now[who].put.Phase() == tick.Done {
				over = append(over, *now[who])
			} else if len(over) < c.Slots {
				t.Errorf("%v: Full while there is room", c)
			}
			now[who] = nil
		}
		if len(over) != c.All() {
			t.Errorf("%v: %d are in", c, len(over))
		}
		for i, a := range over {
			if m.Peek(c.Value(a.put.Slot())) != a.value {
				t.Errorf("%v: in place %d there is %d, want %d", c, a.put.Slot(), m.Peek(c.Value(a.put.Slot())), a.value)
			}
			for _, b := range over[i+1:] {
				if a.to < b.from && !a.put.Stamp().Before(b.put.Stamp()) {
					t.Errorf("%v: %v isn't Before %v", c, a.put.Stamp(), b.put.Stamp())
				}
			}
		}
	}
}
