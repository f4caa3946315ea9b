package get_test

import (
	"math"
	"slices"
	"testing"

	"stackyard/get"
	"stackyard/lay"
	"stackyard/mem"
	"stackyard/pick"
	"stackyard/put"
	"stackyard/snap"
	"stackyard/stamp"
	"stackyard/take"
	"stackyard/tick"
	"stackyard/word"
)

type (
	C = lay.Conf
	E = mem.Event
	W = word.Word
)

const top = math.MaxUint64

// stranger is none of the threads: who turns cells beside the steps that are held.
const stranger = -9

// in is the Word of a place in which something is, which came at an end, at a time.
func in(end word.End, at int) W {
	return W{State: word.Live, End: end, Gen: 2, Stamp: stamp.Stamp{Lo: at, Hi: at}}
}

// cells are those of c, with these Words, place by place from 0 on; what is in a place is its number and 100.
func cells(c C, words ...W) *mem.Mem {
	m := mem.New(c.Cells())
	for i, w := range words {
		m.Store(stranger, c.Word(i), w.Pack())
	}
	for i := range c.All() {
		m.Store(stranger, c.Value(i), uint64(i+100))
	}
	return m
}

func load(who, cell int, x uint64) E {
	return E{Who: who, Op: mem.Load, Cell: cell, Old: x, New: x, OK: true}
}

func store(who, cell int, was, x uint64) E {
	return E{Who: who, Op: mem.Store, Cell: cell, Old: was, New: x, OK: true}
}

// passes is what is Loaded by so many passes from a place on, while all Words are as they are.
func passes(c C, who, start, n int, m *mem.Mem) []E {
	var list []E
	for i := range n * c.All() {
		cell := c.Word((start + i) % c.All())
		list = append(list, load(who, cell, m.Peek(cell)))
	}
	return list
}

// taking is what is done to take what is in a place.
func taking(c C, who, slot int, w W, value uint64) []E {
	return []E{
		store(who, c.Hazard(who), 0, uint64(slot+1)),
		load(who, c.Word(slot), w.Pack()),
		load(who, c.Value(slot), value),
		{Who: who, Op: mem.Swap, Cell: c.Word(slot), Old: w.Pack(), New: w.Taken().Pack(), OK: true},
		store(who, c.Hazard(who), uint64(slot+1), 0),
	}
}

// noted is what the threads did.
func noted(m *mem.Mem) []E {
	return slices.DeleteFunc(m.Log(), func(e E) bool { return e.Who == stranger })
}

// did holds what the threads did.
func did(t *testing.T, m *mem.Mem, want ...[]E) {
	t.Helper()
	if got := noted(m); !slices.Equal(got, slices.Concat(want...)) {
		t.Errorf("noted is %v\nwant     %v", got, slices.Concat(want...))
	}
}

// stands tells of a Get that isn't as it should be.
func stands(t *testing.T, g *get.Get, phase tick.Phase, value uint64, tries int) {
	t.Helper()
	if g.Phase() != phase || g.Value() != value || g.Tries() != tries {
		t.Errorf("Phase %d, Value %d, Tries %d, want %d, %d, %d", g.Phase(), g.Value(), g.Tries(), phase, value, tries)
	}
}

// step does steps of one that is Going, and holds that each touches one cell.
func step(t *testing.T, g *get.Get, m *mem.Mem, steps, tries int) {
	t.Helper()
	for range steps {
		stands(t, g, tick.Going, 0, tries)
		was := m.Count()
		if p := g.Step(m); p != g.Phase() {
			t.Errorf("a step tells Phase %d, it is %d", p, g.Phase())
		}
		if m.Count() != was+1 {
			t.Errorf("a step touches %d cells", m.Count()-was)
		}
	}
}

// goes does the steps that are left, by which it is lost no more, and holds how it ends.
func goes(t *testing.T, g *get.Get, m *mem.Mem, steps int, phase tick.Phase, value uint64, tries int) {
	t.Helper()
	step(t, g, m, steps, tries)
	stands(t, g, phase, value, tries)
	rests(t, g, m)
}

// rests holds that a Get that isn't Going does nothing any more.
func rests(t *testing.T, g *get.Get, m *mem.Mem) {
	t.Helper()
	phase, value, tries, was := g.Phase(), g.Value(), g.Tries(), m.Count()
	for range 20 {
		if g.Step(m) != phase {
			t.Error("a step behind the last one turns the Phase")
		}
		stands(t, g, phase, value, tries)
	}
	if m.Count() != was {
		t.Error("a step behind the last one touches a cell")
	}
}

// P11.1, P11.2: a new one is Going, and has nothing; asking is no step.
func TestNew(t *testing.T) {
	for _, c := range []C{{Threads: 1, Slots: 1}, {Threads: 64, Slots: 64, Source: lay.Wide, Delay: 100}} {
		for _, start := range []int{0, 5, -1, math.MinInt, math.MaxInt} {
			g := get.New(c, c.Threads-1, word.Left, start)
			for range 3 {
				stands(t, g, tick.Going, 0, 0)
			}
		}
	}
}

// P11.1: the chapter's example, and what is noted: of one value, in 4 places, it is Done behind 13 steps.
func TestOne(t *testing.T) {
	c := C{Threads: 2, Slots: 2}
	for slot := range c.All() {
		for who := range c.Threads {
			for _, came := range []word.End{word.Left, word.Right} {
				for _, end := range []word.End{word.Left, word.Right} {
					words := make([]W, c.All())
					words[slot] = in(came, 6)
					m := cells(c, words...)
					other := cells(c, words...)
					goes(t, get.New(c, who, end, 0), m, 13, tick.Done, uint64(slot+100), 0)
					did(t, m, passes(c, who, 0, 2, other), taking(c, who, slot, words[slot], uint64(slot+100)))
				}
			}
		}
	}
}

// P11.1: the chapter's other example: of none, in 4 places, it is Full behind 8 steps, and has turned nothing.
func TestNone(t *testing.T) {
	c := C{Threads: 2, Slots: 2}
	gone := in(word.Right, 3).Taken()
	for _, words := range [][]W{nil, {gone}, {gone, {Gen: 5}, gone, gone}, {{}, {}, {End: word.Right, Gen: word.MaxGen}}} {
		for _, end := range []word.End{word.Left, word.Right} {
			m := cells(c, words...)
			goes(t, get.New(c, 1, end, 0), m, 8, tick.Full, 0, 0)
			did(t, m, passes(c, 1, 0, 2, m))
		}
	}
}

// P11.1: whatever the value is, nought too.
func TestValues(t *testing.T) {
	c := C{Threads: 1, Slots: 1}
	for _, value := range []uint64{0, 1, 1 << 63, top} {
		m := cells(c, in(word.Left, 0))
		m.Store(stranger, c.Value(0), value)
		goes(t, get.New(c, 0, word.Right, 0), m, 7, tick.Done, value, 0)
	}
}

// P11.1: it takes what stands at its end, by the stamps, not by the places: until there is nothing.
func TestEnds(t *testing.T) {
	c := C{Threads: 2, Slots: 3}
	words := []W{in(word.Right, 9), in(word.Left, 2), in(word.Right, 4), {}, in(word.Left, 7), in(word.Left, 2)}
	row := []int{4, 5, 1, 2, 0} // of two of one Stamp, the place with the greater number came later
	for order := range 1 << len(row) {
		m := cells(c, words...)
		left := slices.Clone(row)
		for i := range row {
			end, slot := word.Left, left[0]
			if order>>i&1 == 1 {
				end, slot = word.Right, left[len(left)-1]
			}
			goes(t, get.New(c, i%2, end, order), m, 17, tick.Done, uint64(slot+100), 0)
			left = slices.DeleteFunc(left, func(x int) bool { return x == slot })
		}
		goes(t, get.New(c, 0, word.End(order%2), 0), m, 12, tick.Full, 0, 0)
	}
}

// P11.1: from where on the places are read: start, as a number without a sign, modulo how many there are.
func TestStart(t *testing.T) {
	for _, x := range []struct{ threads, slots, start, want int }{
		{1, 1, 9, 0}, {2, 2, 1, 1}, {2, 2, 3, 3}, {2, 2, 4, 0}, {2, 2, -1, 3}, {2, 2, math.MinInt, 0}, {2, 2, math.MaxInt, 3},
		{1, 3, -1, 0}, {1, 3, -2, 2}, {1, 3, math.MinInt, 2}, {1, 3, math.MaxInt, 1},
	} {
		c := C{Threads: x.threads, Slots: x.slots}
		w := in(word.Right, 1)
		m, other := cells(c, w), cells(c, w)
		goes(t, get.New(c, 0, word.Left, x.start), m, 2*c.All()+5, tick.Done, 100, 0)
		did(t, m, passes(c, 0, x.want, 2, other), taking(c, 0, 0, w, 100))
	}
}

// P11.1, P11.2: if it is lost all begins anew, with a new Snap from start on, and Tries is one more: where the Word is
// another one at once, behind 3 steps of the Take; where it is turned behind its being Loaded, behind 5.
func TestLost(t *testing.T) {
	c := C{Threads: 2, Slots: 2}
	first, second := in(word.Right, 9), in(word.Right, 4)
	for _, x := range []struct{ turned, steps int }{{8, 11}, {9, 11}, {10, 13}, {11, 13}} {
		m := cells(c, W{}, first, second)
		other := cells(c, W{}, first.Taken(), second)
		g := get.New(c, 1, word.Right, 3)
		step(t, g, m, x.turned, 0)
		m.Store(stranger, c.Word(1), first.Taken().Pack())
		step(t, g, m, x.steps-x.turned, 0)
		goes(t, g, m, 13, tick.Done, 102, 1)
		if h := noted(m)[x.steps-1]; h != store(1, c.Hazard(1), 2, 0) {
			t.Errorf("the last step of what is lost is %v", h)
		}
		if got, want := noted(m)[x.steps:], slices.Concat(passes(c, 1, 3, 2, other), taking(c, 1, 2, second, 102)); !slices.Equal(got, want) {
			t.Errorf("noted is %v\nwant     %v", got, want)
		}
	}
}

// P11.1: what it is lost to needn't be a taking: the place may be used anew, and that is what it takes then.
func TestLostToNext(t *testing.T) {
	c := C{Threads: 1, Slots: 2}
	m := cells(c, in(word.Right, 9))
	g := get.New(c, 0, word.Left, 0)
	step(t, g, m, 5, 0)
	m.Store(stranger, c.Value(0), 7)
	m.Store(stranger, c.Word(0), in(word.Right, 9).Next(word.Left, stamp.Stamp{Lo: 9, Hi: 9}).Pack())
	step(t, g, m, 2, 0)
	goes(t, g, m, 9, tick.Done, 7, 1)
}

// P11.1, P11.2: where what was lost was all there was it is Full, with its Tries.
func TestLostAll(t *testing.T) {
	c := C{Threads: 1, Slots: 3}
	m := cells(c, W{}, in(word.Left, 9))
	g := get.New(c, 0, word.Right, 1)
	step(t, g, m, 6, 0)
	m.Store(stranger, c.Word(1), in(word.Left, 9).Taken().Pack())
	step(t, g, m, 3, 0)
	goes(t, g, m, 6, tick.Full, 0, 1)
}

// P11.2: Tries is how often it was lost, however often; until then there is no Value.
func TestTries(t *testing.T) {
	c := C{Threads: 1, Slots: 2}
	m := cells(c, in(word.Left, 0))
	g := get.New(c, 0, word.Right, 0)
	for i := range 50 {
		steps := 3 // of what is lost at once
		if i%2 == 1 {
			steps = 5
		}
		step(t, g, m, 4+steps-2, i) // behind them the Take checks the Word, or Swaps it
		m.Store(stranger, c.Word(0), in(word.Left, i+1).Pack())
		step(t, g, m, 2, i)
	}
	goes(t, g, m, 9, tick.Done, 100, 50)
}

// P11.1: as long as Words are turned while they are read it goes on reading; that is no try.
func TestTurnedMeanwhile(t *testing.T) {
	c := C{Threads: 1, Slots: 2}
	m := cells(c, in(word.Left, 0))
	g := get.New(c, 0, word.Right, 0)
	for i := range 20 {
		step(t, g, m, 2, 0)
		m.Store(stranger, c.Word(1), in(word.Right, i+1).Pack())
	}
	goes(t, g, m, 9, tick.Done, 101, 0)
}

// P11.1: what it takes is what stood at the end by the Words that it read; what comes behind that it doesn't see.
func TestComesLater(t *testing.T) {
	c := C{Threads: 1, Slots: 2}
	for steps := 4; steps < 8; steps++ {
		m := cells(c, in(word.Right, 5))
		g := get.New(c, 0, word.Right, 0)
		step(t, g, m, steps, 0)
		m.Store(stranger, c.Word(1), in(word.Right, 8).Pack())
		goes(t, g, m, 9-steps, tick.Done, 100, 0)
	}
	m := cells(c)
	g := get.New(c, 0, word.Right, 0)
	step(t, g, m, 3, 0)
	m.Store(stranger, c.Word(0), in(word.Right, 8).Pack()) // read already
	goes(t, g, m, 1, tick.Full, 0, 0)
}

// P11.1: what it does hangs on the cells that it is handed at that step.
func TestOtherCells(t *testing.T) {
	c := C{Threads: 1, Slots: 2}
	w := in(word.Right, 5)
	a, b := cells(c, w), cells(c, w)
	b.Store(stranger, c.Value(0), 7)
	g := get.New(c, 0, word.Right, 0)
	for _, m := range []*mem.Mem{a, b, b, a, b, a, b, a, b} {
		step(t, g, m, 1, 0)
	}
	stands(t, g, tick.Done, 7, 0)
	did(t, a, []E{load(0, c.Word(0), w.Pack()), load(0, c.Word(1), 0), load(0, c.Word(0), w.Pack()), taking(c, 0, 0, w, 100)[3]})
}

// P11.1: of two within each other, each has what stood at its end; of the same one takes what is left behind the other's.
func TestTwo(t *testing.T) {
	c := C{Threads: 2, Slots: 1}
	m := cells(c, in(word.Right, 1), in(word.Right, 2))
	a, b := get.New(c, 0, word.Left, 0), get.New(c, 1, word.Right, 0)
	step(t, a, m, 4, 0)
	goes(t, b, m, 9, tick.Done, 101, 0)
	goes(t, a, m, 5, tick.Done, 100, 0)

	m = cells(c, in(word.Right, 1), in(word.Right, 2))
	a, b = get.New(c, 0, word.Right, 0), get.New(c, 1, word.Right, 0)
	step(t, a, m, 7, 0)
	goes(t, b, m, 9, tick.Done, 101, 0)
	step(t, a, m, 2, 0)
	goes(t, a, m, 9, tick.Done, 100, 1)
}

// P11.2: Alone, of Confs at the bounds, whatever else they are; so many steps are taken, if something is there, and 5
// less, if there is nothing.
func TestAlone(t *testing.T) {
	for _, x := range []struct{ threads, slots, want int }{
		{1, 1, 7}, {1, 2, 9}, {2, 1, 9}, {2, 2, 13}, {2, 3, 17}, {1, 64, 133}, {64, 1, 133}, {64, 64, 8197},
	} {
		for source := lay.Count; source <= lay.Wide; source++ {
			c := C{Threads: x.threads, Slots: x.slots, Source: source, Delay: 20 * int(source)}
			if got := get.Alone(c); got != x.want {
				t.Errorf("%v Alone: %d, want %d", c, got, x.want)
			}
			who := c.Threads - 1
			goes(t, get.New(c, who, word.Left, 1), cells(c, in(word.Right, 3)), x.want, tick.Done, 100, 0)
			goes(t, get.New(c, who, word.Left, 1), cells(c), x.want-5, tick.Full, 0, 0)
		}
	}
}

// numbers makes numbers by a rule.
type numbers uint64

func (x *numbers) under(n int) int {
	*x = *x*6364136223846793005 + 1442695040888963407
	return int(*x>>33) % n
}

// end is one of both.
func (x *numbers) end() word.End { return word.End(x.under(2)) }

// should does to cells what a Get does, part by part, if turn is done ahead of each step: how it ends.
func should(c C, who int, end word.End, start int, m *mem.Mem, turn func(m *mem.Mem)) (phase tick.Phase, value uint64, tries int) {
	for ; ; tries++ {
		s := snap.New(c, who, start)
		for s.Phase() == tick.Going {
			turn(m)
			s.Step(m)
		}
		slot := pick.At(s.Words(), end)
		if slot < 0 {
			return tick.Full, 0, tries
		}
		k := take.New(c, who, slot, s.Words()[slot])
		for k.Phase() == tick.Going {
			turn(m)
			k.Step(m)
		}
		if k.Phase() == tick.Done {
			return tick.Done, k.Value(), tries
		}
	}
}

// turner turns a Word now and then, by a rule of numbers that is the same whenever it starts alike.
func turner(c C, x numbers, seldom int) func(m *mem.Mem) {
	return func(m *mem.Mem) {
		if x.under(seldom) > 0 {
			return
		}
		slot := x.under(c.All())
		was := word.Unpack(m.Peek(c.Word(slot)))
		w := was.Next(x.end(), stamp.Stamp{Lo: x.under(9), Hi: 9})
		if was.State == word.Live && x.under(3) > 0 {
			w = was.Taken()
		}
		m.Store(stranger, c.Word(slot), w.Pack())
	}
}

// P11.1, P11.2: on many cells, which are turned meanwhile, all by a rule of numbers.
func TestMany(t *testing.T) {
	x := numbers(4)
	ends, lost := map[tick.Phase]int{}, 0
	for range 3000 {
		c := C{Threads: 1 + x.under(3), Slots: 1 + x.under(3)}
		var words []W
		for i := range c.All() {
			words = append(words, []W{{}, in(x.end(), x.under(9)), in(x.end(), i).Taken()}[x.under(3)])
		}
		m, other := cells(c, words...), cells(c, words...)
		who, end, start := x.under(c.Threads), x.end(), x.under(100)-50
		rule, seldom := numbers(x.under(1<<30)), 3*c.All()+x.under(20)
		phase, value, tries := should(c, who, end, start, other, turner(c, rule, seldom))
		g, turn := get.New(c, who, end, start), turner(c, rule, seldom)
		for g.Phase() == tick.Going && m.Count() <= other.Count() {
			turn(m)
			g.Step(m)
		}
		stands(t, g, phase, value, tries)
		rests(t, g, m)
		did(t, m, noted(other))
		ends[phase]++
		lost += tries
	}
	if ends[tick.Done] == 0 || ends[tick.Full] == 0 || lost == 0 {
		t.Error("not all ends were held")
	}
}

// P11.1: two threads take the only value there is, in each order of their first steps: one has it, the other one finds
// nothing.
func TestOneOfTwo(t *testing.T) {
	c := C{Threads: 2, Slots: 1}
	won, lost := [2]int{}, 0
	for order := range 1 << 16 {
		m := cells(c, in(word.Right, 1))
		list := []*get.Get{get.New(c, 0, word.Left, 0), get.New(c, 1, word.Right, 1)}
		for i := range 16 {
			list[order>>i&1].Step(m)
		}
		for i := 0; list[0].Phase() == tick.Going || list[1].Phase() == tick.Going; i++ {
			list[i%2].Step(m)
		}
		winner := slices.IndexFunc(list, func(g *get.Get) bool { return g.Phase() == tick.Done })
		if winner < 0 {
			t.Fatalf("order %b: none is Done", order)
		}
		stands(t, list[winner], tick.Done, 100, 0)
		stands(t, list[1-winner], tick.Full, 0, list[1-winner].Tries())
		won[winner]++
		lost += list[1-winner].Tries()
	}
	if won[0] == 0 || won[1] == 0 || lost == 0 {
		t.Error("not all ends were held")
	}
}

// thread is one that puts and takes, and what it saw while it takes.
type thread struct {
	put   *put.Put
	value uint64
	get   *get.Get
	end   word.End
	empty bool            // whether there was a moment at which nothing was there
	stood map[uint64]bool // what stood at the end at some moment
}

// yard is threads that share cells, and what they put in and had.
type yard struct {
	c       C
	m       *mem.Mem
	threads []thread
	in      map[uint64]bool
	had     map[uint64]bool
	x       numbers
}

// begin lets a thread that does nothing begin something.
func (y *yard) begin(who int, moment int) {
	k := &y.threads[who]
	k.end = y.x.end()
	if y.x.under(2) == 0 {
		k.value = uint64(moment + 1) // so each one is another one
		k.put = put.New(y.c, who, k.end, k.value)
		return
	}
	k.get = get.New(y.c, who, k.end, y.x.under(y.c.All()))
	k.empty, k.stood = false, map[uint64]bool{}
	y.look(k)
}

// look keeps what stands at the end of a thread that takes.
func (y *yard) look(k *thread) {
	var words []uint64
	for i := range y.c.All() {
		words = append(words, y.m.Peek(y.c.Word(i)))
	}
	if slot := pick.At(words, k.end); slot < 0 {
		k.empty = true
	} else {
		k.stood[y.m.Peek(y.c.Value(slot))] = true
	}
}

// step does a step of a thread that does something.
func (y *yard) step(t *testing.T, who int, moment int) {
	t.Helper()
	k := &y.threads[who]
	if k.put != nil {
		switch k.put.Step(y.m, moment) {
		case tick.Done:
			y.in[k.value] = true
			k.put = nil
		case tick.Full:
			k.put = nil
		}
	} else if k.get.Step(y.m) != tick.Going {
		y.got(t, k)
	}
	for i := range y.threads {
		if y.threads[i].get != nil {
			y.look(&y.threads[i])
		}
	}
}

// got holds what a thread that took has.
func (y *yard) got(t *testing.T, k *thread) {
	t.Helper()
	v := k.get.Value()
	if k.get.Phase() == tick.Full {
		if !k.empty {
			t.Errorf("%v: Full while something was always there", y.c)
		}
	} else if !y.in[v] || y.had[v] || !k.stood[v] {
		t.Errorf("%v: %d was had, put in %v, had already %v, stood at the end %v", y.c, v, y.in[v], y.had[v], k.stood[v])
	} else {
		y.had[v] = true
	}
	k.get = nil
}

// P11.1: of many threads that put and take, in orders made by a rule of numbers: what is had was put in, is had once,
// and stood at that end at some moment of the Get; one is Full only if there was nothing at some moment of it; what is
// in and wasn't had is still there.
func TestAtOnce(t *testing.T) {
	x := numbers(12)
	had := 0
	for range 400 {
		c := C{Threads: 1 + x.under(4), Slots: 1 + x.under(3), Source: lay.Source(x.under(5)), Delay: x.under(4)}
		y := yard{c: c, m: mem.New(c.Cells()), threads: make([]thread, c.Threads), in: map[uint64]bool{}, had: map[uint64]bool{}, x: x}
		for moment := range 600 {
			who := y.x.under(c.Threads)
			if k := y.threads[who]; k.put == nil && k.get == nil {
				y.begin(who, moment)
			}
			y.step(t, who, moment)
		}
		for who, k := range y.threads { // nobody begins any more
			for n := 0; (y.threads[who].put != nil || y.threads[who].get != nil) && n < 1000; n++ {
				y.step(t, who, 600+n)
			}
			if y.threads[who].put != nil || y.threads[who].get != nil {
				t.Errorf("%v: %v doesn't end", c, k)
			}
		}
		live := 0
		for i := range c.All() {
			if word.Unpack(y.m.Peek(c.Word(i))).State == word.Live {
				live++
			}
		}
		if live != len(y.in)-len(y.had) {
			t.Errorf("%v: %d are there, %d were put in, %d had", c, live, len(y.in), len(y.had))
		}
		had += len(y.had)
		x = y.x
	}
	if had == 0 {
		t.Error("nothing was had")
	}
}

// alone does a Put, or a Get, to its end.
func alone(step func() tick.Phase) tick.Phase {
	for range 1000 {
		if p := step(); p != tick.Going {
			return p
		}
	}
	return tick.Going
}

// P11.1: one behind the other, Puts and Gets are a row with two ends, by each Source, while its places are used anew.
func TestRow(t *testing.T) {
	x := numbers(6)
	for range 200 {
		c := C{Threads: 1 + x.under(3), Slots: 1 + x.under(4), Source: lay.Source(x.under(5)), Delay: x.under(3)}
		m, now := mem.New(c.Cells()), 0
		var row []uint64
		for i := range 200 {
			who, end, v := x.under(c.Threads), x.end(), uint64(i+1)
			if x.under(2) == 0 {
				p := put.New(c, who, end, v)
				if alone(func() tick.Phase { now++; return p.Step(m, now) }) != tick.Done {
					continue
				}
				if end == word.Left {
					row = slices.Insert(row, 0, v)
				} else {
					row = append(row, v)
				}
				continue
			}
			g := get.New(c, who, end, x.under(9))
			alone(func() tick.Phase { return g.Step(m) })
			if len(row) == 0 {
				stands(t, g, tick.Full, 0, 0)
				continue
			}
			want, left := row[0], row[1:]
			if end == word.Right {
				want, left = row[len(row)-1], row[:len(row)-1]
			}
			stands(t, g, tick.Done, want, 0)
			row = slices.Clone(left)
		}
	}
}
