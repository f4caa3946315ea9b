package audit_test

import (
	"slices"
	"testing"

	"stackyard/api"
	"stackyard/audit"
	"stackyard/lay"
	"stackyard/mem"
	"stackyard/put"
	"stackyard/take"
	"stackyard/task"
	"stackyard/tick"
	"stackyard/word"
	"stackyard/yard"
)

// numbers makes numbers by a rule.
type numbers uint64

func (x *numbers) under(n int) int {
	*x = *x*6364136223846793005 + 1442695040888963407
	return int(*x>>33) % n
}

func (x *numbers) conf() C {
	return C{Threads: 1 + x.under(4), Slots: 1 + x.under(3), Source: lay.Source(x.under(5)), Delay: x.under(4)}
}

func (x *numbers) call() task.Call {
	return task.Call{Kind: task.Kind(x.under(2)), End: word.End(x.under(2)), Value: uint64(x.under(9)), Start: x.under(50)}
}

// cell is what a cell is behind events, asked from the last one on.
func cell(log []Event, cell int) uint64 {
	for _, e := range slices.Backward(log) {
		if e.Cell == cell {
			return e.New
		}
	}
	return 0
}

// loaded is the Word that a thread Loaded last of a place, asked from the last event on; false: none.
func loaded(c C, log []Event, who, slot int) (W, bool) {
	for _, e := range slices.Backward(log) {
		if e.Op == mem.Load && e.Who == who && e.Cell == c.Word(slot) {
			return word.Unpack(e.Old), true
		}
	}
	return W{}, false
}

// may tells whether an event may be behind others, asked word by word.
func may(c C, log []Event, e Event) bool {
	kind, of := c.Kind(e.Cell)
	if e.Old != cell(log, e.Cell) || e.Who < 0 || e.Who > c.Threads-1 || kind == lay.None {
		return false
	}
	old, next := word.Unpack(e.Old), word.Unpack(e.New)
	oneMore := e.New-e.Old == 1
	switch kind {
	case lay.OfWord:
		isNext := slices.ContainsFunc([]word.End{word.Left, word.Right}, func(end word.End) bool {
			n := old.Next(end, next.Stamp)
			return n.Right() && n.Pack() == e.New
		})
		return e.Op == mem.Load ||
			e.Op == mem.Store && e.Who == of/c.Slots && old.State != word.Live && isNext && next.Stamp.Right() ||
			e.Op == mem.Swap && !e.OK ||
			e.Op == mem.Swap && old.State == word.Live && old.Taken().Pack() == e.New
	case lay.OfValue:
		now := word.Unpack(cell(log, c.Word(of)))
		seen, any := loaded(c, log, e.Who, of)
		return e.Op == mem.Load && cell(log, c.Hazard(e.Who)) == uint64(of+1) && any && seen.Gen == now.Gen ||
			e.Op == mem.Store && e.Who == of/c.Slots && now.State != word.Live
	case lay.OfHazard:
		return e.Op == mem.Load || e.Op == mem.Store && e.Who == of
	}
	return c.Source == lay.Count && of == 0 && e.Op == mem.Add && oneMore ||
		c.Source == lay.Stutter && (e.Op == mem.Load || e.Op == mem.Store && e.Who == of && e.New > e.Old) ||
		c.Source == lay.Swap && of == 0 && (e.Op == mem.Load || e.Op == mem.Swap && (!e.OK || oneMore))
}

// firstOf is what First should tell, asked event by event.
func firstOf(c C, log []Event) int {
	for i, e := range log {
		if !may(c, log[:i], e) {
			return i
		}
	}
	return -1
}

// run is a yard in which calls were done within each other, stopped anywhere; at each step it is asked what is told.
func (x *numbers) run(t *testing.T, c C, moves int, ask func(y *yard.Yard)) *yard.Yard {
	t.Helper()
	y, e := yard.New(c)
	if e != api.OK {
		t.Fatalf("%v: %s", c, e.Word())
	}
	for range moves {
		who := x.under(c.Threads)
		if !y.Busy(who) {
			y.Call(who, x.call())
		}
		for n := 1 + x.under(2)*x.under(9); n > 0 && y.Step(who); n-- {
			ask(y)
		}
		y.Pass(x.under(8) / 6)
	}
	return y
}

// none asks nothing.
func none(*yard.Yard) {}

// P17.2, P3: nothing is done in any yard that may not be: whatever its Conf, whoever steps, whatever calls there are,
// stopped anywhere.
func TestYards(t *testing.T) {
	x := numbers(1)
	kinds := map[[2]int]int{} // of each kind of cell, how often each Op came up
	for range 1500 {
		c := x.conf()
		y := x.run(t, c, x.under(600), none)
		if got := audit.First(c, y.Log()); got != -1 {
			t.Fatalf("%v: %v, number %d, may not be", c, y.Log()[got], got)
		}
		for _, e := range y.Log() {
			kind, _ := c.Kind(e.Cell)
			kinds[[2]int{int(kind), int(e.Op)}]++
		}
	}
	if len(kinds) != 11 { // of Words Load, Store, Swap, of Values and Hazards Load, Store, of Numbers all
		t.Errorf("not all came up: %v", kinds)
	}
}

// P17.2: it is so of the greatest yards too.
func TestGreatYards(t *testing.T) {
	x := numbers(2)
	for source := lay.Count; source <= lay.Wide; source++ {
		for _, c := range []C{
			{Threads: api.MaxThreads, Slots: 1, Source: source, Delay: api.MaxDelay},
			{Threads: 1, Slots: api.MaxSlots, Source: source, Delay: api.MaxDelay},
			{Threads: api.MaxThreads, Slots: api.MaxSlots, Source: source},
		} {
			first(t, c, -1, x.run(t, c, 4000, none).Log()...)
		}
	}
}

// P17.2: it is so until a place can be used no more, and behind that.
func TestUsedUp(t *testing.T) {
	y, _ := yard.New(C{Threads: 1, Slots: 1, Source: lay.Stutter})
	for range word.MaxGen + 2 {
		for _, kind := range []task.Kind{task.Put, task.Get} {
			y.Call(0, task.Call{Kind: kind, Value: 7})
			for y.Step(0) {
			}
		}
	}
	if got := audit.First(y.Conf(), y.Log()); got != -1 {
		t.Errorf("%v, number %d, may not be", y.Log()[got], got)
	}
	if w := word.Unpack(y.Words()[0]); w.Gen != word.MaxGen || w.State != word.Gone {
		t.Errorf("the place isn't used up: %v", w)
	}
}

// P17.2: it is so where there are no stamps any more.
func TestNoStamps(t *testing.T) {
	for _, source := range []lay.Source{lay.Clock, lay.Wide} {
		x, c := numbers(3), C{Threads: 2, Slots: 2, Source: source}
		y := x.run(t, c, 200, none)
		y.Pass(yard.MaxTime)
		for who := range c.Threads {
			for y.Step(who) {
			}
			y.Call(who, task.Call{Value: 7})
			for y.Step(who) {
			}
		}
		list := y.Deeds()
		if list[len(list)-1].Reply.OK {
			t.Errorf("%v: there are stamps", c)
		}
		first(t, c, -1, y.Log()...)
	}
}

// P17.2, P3: of any yard's Words, behind each step, each is Free, Live or Gone, and they are counted.
func TestCountsOfYards(t *testing.T) {
	x := numbers(4)
	for range 200 {
		c := x.conf()
		x.run(t, c, 100, func(y *yard.Yard) {
			want := map[word.State]int{}
			for _, w := range y.Words() {
				want[word.Unpack(w).State]++
			}
			f, l, g := audit.Counts(y.Words())
			if f != want[word.Free] || l != want[word.Live] || g != want[word.Gone] || f+l+g != c.All() {
				t.Fatalf("%v: of %x are %d Free, %d Live, %d Gone", c, y.Words(), f, l, g)
			}
		})
	}
}

// odd turns one event, or which there are.
func (x *numbers) odd(c C, log []Event) []Event {
	i := x.under(len(log))
	e := &log[i]
	switch x.under(12) {
	case 0:
		e.Who = x.under(c.Threads+2) - 1
	case 1:
		e.Op = mem.Op(x.under(6) - 1)
	case 2:
		e.Cell = x.under(c.Cells()+2) - 1
	case 3:
		e.Old = x.turned(e.Old)
	case 4, 5:
		e.New = x.turned(e.New)
	case 6:
		e.OK = !e.OK
	case 7, 8: // as if it weren't done
		return slices.Delete(log, i, i+1)
	case 9: // as if it were done twice
		return slices.Insert(log, i, *e)
	case 10: // as if it were done some time else
		j, was := x.under(len(log)), *e
		return slices.Insert(slices.Delete(log, i, i+1), j, was)
	case 11: // as if another thread, or another place, had done it, or been it, all the time
		a, b := x.under(c.Cells()), x.under(c.Cells())
		for j := range log {
			switch log[j].Cell {
			case a:
				log[j].Cell = b
			case b:
				log[j].Cell = a
			}
		}
	}
	return log
}

// turned is another number.
func (x *numbers) turned(n uint64) uint64 {
	switch x.under(4) {
	case 0:
		return n + 1
	case 1:
		return n - 1
	case 2:
		return 0
	}
	return n ^ 1<<x.under(64)
}

// again lets each event's Old be what the cell is behind those ahead of it, so that it isn't for that alone that it
// may not be.
func again(log []Event) {
	cells := map[int]uint64{}
	for i := range log {
		e := &log[i]
		if e.Old == e.New {
			e.New = cells[e.Cell]
		}
		if e.Op == mem.Add {
			e.New += cells[e.Cell] - e.Old
		}
		e.Old = cells[e.Cell]
		cells[e.Cell] = e.New
	}
}

// P17.1: of events of a yard, of which some were turned, the first one that may not be is told, asked word by word.
func TestTurned(t *testing.T) {
	x := numbers(5)
	all, kinds := 0, map[lay.Kind]int{}
	for i := range 6000 {
		c := x.conf()
		log := x.run(t, c, 1+x.under(60), none).Log()
		for range 1 + x.under(3) {
			if len(log) > 0 {
				log = x.odd(c, log)
			}
		}
		if i%2 == 0 {
			again(log)
		}
		want := firstOf(c, log)
		first(t, c, want, log...)
		if want < 0 {
			all++
			continue
		}
		kind, _ := c.Kind(log[want].Cell)
		kinds[kind]++
	}
	if all < 100 || len(kinds) != 5 {
		t.Errorf("not all came up: %d, %v", all, kinds)
	}
}

// P17.1: of events by a rule of numbers, on few cells, the first one that may not be is told, asked word by word.
func TestMade(t *testing.T) {
	x := numbers(6)
	some := []uint64{0, 1, 2, 3, live(1).Pack(), live(1).Taken().Pack(), live(2).Pack(), live(2).Taken().Pack()}
	lengths := map[bool]int{}
	for range 20000 {
		c := C{Threads: 1 + x.under(2), Slots: 1, Source: lay.Source(x.under(5))}
		var log []Event
		for range 1 + x.under(30) {
			// most of them such as may be, so that there are many ahead of the first one that may not
			for range 20 {
				at := x.under(c.Cells())
				e := Event{Who: x.under(c.Threads), Op: mem.Op(x.under(4)), Cell: at, Old: cell(log, at), New: some[x.under(len(some))], OK: x.under(3) > 0}
				if x.under(4) == 0 || may(c, log, e) {
					log = append(log, e)
					break
				}
			}
		}
		want := firstOf(c, log)
		first(t, c, want, log...)
		lengths[want < 0 || want > 5]++
	}
	if lengths[true] < 1000 || lengths[false] < 1000 {
		t.Errorf("not all came up: %v", lengths)
	}
}

// P17.1: what goes wrong is told where it goes wrong: a place is used anew while a thread looks at it.
func TestUsedAnew(t *testing.T) {
	c := C{Threads: 2, Slots: 1}
	m := mem.New(c.Cells())
	p := put.New(c, 1, word.Left, 7)
	for p.Step(m, 0) == tick.Going {
	}
	in := m.Peek(c.Word(1))
	g := take.New(c, 0, 1, in)
	g.Step(m) // the Hazard
	g.Step(m) // the Word
	m.Swap(1, c.Word(1), in, word.Unpack(in).Taken().Pack())
	// thread 1 asks for no Hazard
	m.Store(1, c.Value(1), 8)
	first(t, c, -1, m.Log()...)
	m.Store(1, c.Word(1), word.Unpack(in).Next(word.Left, p.Stamp()).Pack())
	first(t, c, -1, m.Log()...)
	g.Step(m) // the Value
	first(t, c, m.Count()-1, m.Log()...)
}

// P17.1: it takes time by the number of events alone.
func TestLong(t *testing.T) {
	c := C{Threads: api.MaxThreads, Slots: api.MaxSlots}
	log := make([]Event, 0, 1<<20)
	for i := range cap(log) {
		log = append(log, load(i%c.Threads, i%c.All(), 0))
	}
	log = append(log, add(0, c.Number(1), 0, 1))
	if got := audit.First(c, log); got != len(log)-1 {
		t.Errorf("the first one is %d, want %d", got, len(log)-1)
	}
}
