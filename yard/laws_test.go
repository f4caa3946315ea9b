package yard_test

import (
	"math"
	"slices"
	"testing"

	"stackyard/api"
	"stackyard/lay"
	"stackyard/mem"
	"stackyard/put"
	"stackyard/task"
	"stackyard/word"
	"stackyard/yard"
)

// numbers makes numbers by a rule.
type numbers uint64

func (x *numbers) under(n int) int {
	*x = *x*6364136223846793005 + 1442695040888963407
	return int(*x>>33) % n
}

func (x *numbers) conf() C {
	return C{Threads: 1 + x.under(4), Slots: 1 + x.under(3), Source: lay.Source(x.under(5)), Delay: x.under(4)}
}

// sides are the ends at which a run's calls put in, and take.
type sides struct{ put, get []word.End }

var (
	left  = []word.End{word.Left}
	right = []word.End{word.Right}
	both  = []word.End{word.Left, word.Right}
)

// call is one at one of those ends; no two Puts of one run are of one value.
func (x *numbers) call(at sides, value int) Call {
	if x.under(2) == 0 {
		return putting(at.put[x.under(len(at.put))], uint64(value))
	}
	return getting(at.get[x.under(len(at.get))], x.under(100)-50)
}

// run is a yard in which calls were done within each other, and what its moves were.
type run struct {
	yard  *Yard
	steps []int // of each deed, how many steps it took
	gaps  []int // between one end of a call and the next one, how many steps there were
}

// run does moves by a rule of numbers, and so stops anywhere, in the midst of calls too, once there are as many calls
// as told. Now and then one thread alone goes on for a while.
func (x *numbers) run(t *testing.T, c C, at sides, count int) run {
	t.Helper()
	r := run{yard: yardOf(t, c), steps: make([]int, count), gaps: []int{0}}
	deed := make([]int, c.Threads)
	for begun, moves := 0, x.under(60*count); moves > 0; moves-- {
		who := x.under(c.Threads)
		if !r.yard.Busy(who) {
			if begun < count {
				deed[who] = begun
				begun++
				calls(t, r.yard, who, x.call(at, begun))
			}
			continue
		}
		for n := 1 + x.under(2)*x.under(9); n > 0 && r.yard.Busy(who); n-- {
			r.step(t, who)
			r.steps[deed[who]]++
		}
		if x.under(4) == 0 {
			r.yard.Pass(x.under(3))
		}
	}
	return r
}

// step does a step.
func (r *run) step(t *testing.T, who int) {
	t.Helper()
	steps(t, r.yard, who, 1)
	r.gaps[len(r.gaps)-1]++
	if !r.yard.Busy(who) {
		r.gaps = append(r.gaps, 0)
	}
}

// before tells whether a call was over ahead of another one's beginning.
func before(a, b Deed) bool { return a.To >= 0 && a.To < b.From }

// done is a row, from left to right, behind a call that was answered so; one that isn't over, as if it were answered OK.
func done(row []uint64, d Deed) ([]uint64, bool) {
	ok := d.Reply.OK || d.To < 0
	switch {
	case d.Call.Kind == task.Put && !ok:
		return row, true
	case d.Call.Kind == task.Put && d.Call.End == word.Left:
		return slices.Insert(slices.Clone(row), 0, d.Call.Value), true
	case d.Call.Kind == task.Put:
		return append(slices.Clone(row), d.Call.Value), true
	case len(row) == 0 || !ok:
		return row, len(row) == 0 && !ok
	}
	value, rest := row[0], row[1:]
	if d.Call.End == word.Right {
		value, rest = row[len(row)-1], row[:len(row)-1]
	}
	return rest, d.To < 0 || value == d.Reply.Value
}

// ordered tells whether there is an order, of all calls that are over, and of some of those that aren't, behind those
// that stand in it already.
func ordered(list []Deed, stands []bool, row []uint64) bool {
	var left []Deed
	over := true
	for i, d := range list {
		if !stands[i] {
			left = append(left, d)
			over = over && d.To < 0
		}
	}
	if over {
		return true
	}
	for i, d := range list {
		if stands[i] || slices.ContainsFunc(left, func(o Deed) bool { return before(o, d) }) {
			continue
		}
		if next, ok := done(row, d); ok {
			stands[i] = true
			over = ordered(list, stands, next)
			stands[i] = false
		}
		if over {
			return true
		}
	}
	return false
}

// taker is the Get that told a value; of none that tells it one that begins behind all, or, where one that isn't over
// may have it already, the first one of these.
func taker(list []Deed, value uint64) Deed {
	by := Deed{From: math.MaxInt, To: math.MaxInt}
	for _, d := range list {
		if d.Call.Kind != task.Get {
			continue
		}
		if d.Reply.OK && d.Reply.Value == value {
			return d
		}
		if d.To < 0 && d.From < by.From {
			by = d
		}
	}
	return by
}

// surely tells whether what a Put put in was there, whatever the order, behind each of the moves from one on to another.
func surely(list []Deed, d Deed, from, to int) bool {
	return d.Call.Kind == task.Put && d.Reply.OK && d.To <= from && taker(list, d.Call.Value).From > to
}

// somethingAllTheWhile tells whether there was something at each moment between a call's beginning and its end.
func somethingAllTheWhile(list []Deed, get Deed) bool {
	for move := get.From; move < get.To; move++ {
		if !slices.ContainsFunc(list, func(d Deed) bool { return surely(list, d, move, move) }) {
			return false
		}
	}
	return true
}

// nearer tells whether one of two Puts is surely nearer to an end than the other one.
func nearer(end word.End, a, b Deed) bool {
	if a.Call.End != b.Call.End {
		return a.Call.End == end
	}
	if a.Call.End == end {
		return before(b, a)
	}
	return before(a, b)
}

// P1: at one end it is a stack, from end to end a queue: for whatever is done within each other there is an order in
// which it could be done one behind the other.
func TestOrder(t *testing.T) {
	x := numbers(1)
	for i := range 1500 {
		at := []sides{{left, left}, {right, right}, {left, right}, {right, left}}[i%4]
		c := x.conf()
		list := x.run(t, c, at, 8).yard.Deeds()
		if !ordered(list, make([]bool, len(list)), nil) {
			t.Fatalf("%v: no order of %v", c, list)
		}
	}
}

// P1: that there is nothing is told only if there was a moment at which there may have been nothing.
// P2: of two Puts one behind the other the stamps are so; nothing is taken while something is nearer to that end.
func TestNearer(t *testing.T) {
	x := numbers(2)
	nothing, had := 0, 0
	for range 1500 {
		c := x.conf()
		list := x.run(t, c, sides{both, both}, 12).yard.Deeds()
		for _, g := range list {
			switch {
			case g.To < 0 || g.Call.Kind != task.Get:
			case g.Reply.OK:
				had++
				nearest(t, list, g)
			default:
				nothing++
				if somethingAllTheWhile(list, g) {
					t.Fatalf("%v: %v tells that there is nothing: %v", c, g, list)
				}
			}
		}
		stamped(t, list)
	}
	if nothing == 0 || had == 0 {
		t.Errorf("not all ends were held: %d, %d", nothing, had)
	}
}

// nearest holds that a Get had nothing while something was surely nearer to its end all the while.
func nearest(t *testing.T, list []Deed, g Deed) {
	t.Helper()
	for _, p := range list {
		if p.Call.Kind != task.Put || p.Call.Value != g.Reply.Value {
			continue
		}
		for _, other := range list {
			if surely(list, other, g.From, g.To) && nearer(g.Call.End, other, p) {
				t.Fatalf("%v is taken by %v while %v is nearer", p, g, other)
			}
		}
	}
}

// stamped holds that of two values, of which the one was in ahead of the other one's beginning, the stamps are so.
func stamped(t *testing.T, list []Deed) {
	t.Helper()
	for _, a := range list {
		for _, b := range list {
			if before(a, b) && a.Call.Kind == task.Put && b.Call.Kind == task.Put && a.Reply.OK && b.Reply.OK &&
				!a.Reply.Stamp.Before(b.Reply.Stamp) {
				t.Fatalf("%v isn't stamped ahead of %v", a, b)
			}
		}
	}
}

// P3: each value that is had was put in, by a Put that isn't begun behind it, and is had once.
func TestHadOnce(t *testing.T) {
	x := numbers(3)
	for range 500 {
		list := x.run(t, x.conf(), sides{both, both}, 20).yard.Deeds()
		had := map[uint64]bool{}
		for _, g := range list {
			if g.Call.Kind != task.Get || !g.Reply.OK {
				continue
			}
			if had[g.Reply.Value] {
				t.Errorf("%d is had twice", g.Reply.Value)
			}
			had[g.Reply.Value] = true
			if !slices.ContainsFunc(list, func(p Deed) bool {
				return p.Call == putting(p.Call.End, g.Reply.Value) && p.From < g.To && (p.Reply.OK || p.To < 0)
			}) {
				t.Errorf("%d is had, and nobody put it in: %v", g.Reply.Value, list)
			}
		}
	}
}

// P3: each place is Free, Live or Gone; behind all calls there is just as much as was put in and not had, and it is
// those very values.
func TestPlaces(t *testing.T) {
	x := numbers(7)
	for range 500 {
		c := x.conf()
		y := x.run(t, c, sides{both, both}, 20).yard
		for _, w := range y.Words() {
			if word.Unpack(w).State > word.Gone {
				t.Errorf("a Word is %x", w)
			}
		}
		for who := range c.Threads {
			ends(t, y, who)
		}
		var want, in []uint64
		for _, d := range y.Deeds() {
			if d.Call.Kind == task.Put && d.Reply.OK && taker(y.Deeds(), d.Call.Value).To == math.MaxInt {
				want = append(want, d.Call.Value)
			}
		}
		for slot, w := range y.Words() {
			if word.Unpack(w).State == word.Live {
				in = append(in, y.Values()[slot])
			}
		}
		slices.Sort(in)
		if !slices.Equal(in, want) {
			t.Errorf("%v: there is %d, want %d", c, in, want)
		}
	}
}

// used is how many of a thread's places are Live, or Gone while a thread looks at them.
func used(y *Yard, who int) int {
	c, n := y.Conf(), 0
	m, _ := mem.Back(c.Cells(), y.Log())
	for slot := c.First(who); slot < c.First(who)+c.Slots; slot++ {
		s := word.Unpack(m.Peek(c.Word(slot))).State
		looked := false
		for other := range c.Threads {
			looked = looked || m.Peek(c.Hazard(other)) == uint64(slot)+1
		}
		if s == word.Live || s == word.Gone && looked {
			n++
		}
	}
	return n
}

// P3: a Put that nobody comes between is refused only if all its thread's places are used.
func TestRefused(t *testing.T) {
	x := numbers(4)
	refused := 0
	for range 500 {
		c := x.conf()
		y := x.run(t, c, sides{both, both}, 10).yard
		for who := range c.Threads {
			if y.Busy(who) {
				continue
			}
			n := used(y, who)
			does(t, y, who, putting(word.Left, 99))
			list := y.Deeds()
			ok := list[len(list)-1].Reply.OK
			if ok != (n < c.Slots) {
				t.Errorf("%v: a Put is OK: %v, while %d places are used", c, ok, n)
			}
			if !ok {
				refused++
			}
		}
	}
	if refused == 0 {
		t.Error("no Put was refused")
	}
}

// P1: a Put without OK turns nothing: no Word, and no Value.
func TestRefusedTurnsNothing(t *testing.T) {
	for _, c := range []C{{Threads: 2, Slots: 2}, {Threads: 1, Slots: 3, Source: lay.Clock}} {
		y := yardOf(t, c)
		does(t, y, 0, putting(word.Left, 1))
		if c.Source == lay.Clock {
			y.Pass(yard.MaxTime)
		} else {
			does(t, y, 0, putting(word.Left, 2))
		}
		words, values := y.Words(), y.Values()
		does(t, y, 0, putting(word.Left, 3))
		list := y.Deeds()
		if list[len(list)-1].Reply != (Reply{}) || !slices.Equal(y.Words(), words) || !slices.Equal(y.Values(), values) {
			t.Errorf("%v: %v turns something", c, list[len(list)-1])
		}
	}
}

// P4: a Put takes no more steps than layer 10 tells; whoever steps, calls come to an end again and again.
func TestSteps(t *testing.T) {
	x := numbers(5)
	for range 500 {
		c := x.conf()
		r := x.run(t, c, sides{both, both}, 12)
		for i, d := range r.yard.Deeds() {
			if d.Call.Kind == task.Put && r.steps[i] > put.Most(c) {
				t.Errorf("%v: a Put takes %d steps", c, r.steps[i])
			}
		}
		window := c.Threads*max(put.Most(c), (c.Threads+1)*(4*c.All()+10)) + 1
		for _, gap := range r.gaps {
			if gap > window {
				t.Errorf("%v: no call is over within %d steps", c, gap)
			}
		}
	}
}

// P13.2: a step touches one cell at most, and it is that thread that does; a Call and a Pass touch none.
func TestOneCell(t *testing.T) {
	x := numbers(8)
	for range 50 {
		c := x.conf()
		y := yardOf(t, c)
		for range 100 {
			who, was, most := x.under(c.Threads), len(y.Log()), 0
			if y.Busy(who) {
				steps(t, y, who, 1)
				most = 1
			} else {
				calls(t, y, who, x.call(sides{both, both}, 7))
				y.Pass(2)
			}
			log := y.Log()[was:]
			if len(log) > most || len(log) == 1 && log[0].Who != who {
				t.Errorf("by thread %d this is noted: %v", who, log)
			}
		}
	}
}

// bare is what a yard should be: its tasks, done on cells of their own.
type bare struct {
	sight
	cells *mem.Mem
	tasks []*task.Task
	deed  []int
	moves int
}

// call is what a Call is answered by.
func (b *bare) call(who int, c Call) api.Errno {
	if who < 0 || who >= len(b.tasks) || !c.Right() {
		return api.ErrArg
	}
	if b.tasks[who] != nil {
		return api.ErrBusy
	}
	b.tasks[who], b.deed[who], b.busy[who] = task.New(b.conf, who, c), len(b.deeds), true
	b.deeds = append(b.deeds, Deed{Who: who, Call: c, From: b.moves, To: -1})
	b.moves++
	return api.OK
}

func (b *bare) step(who int) bool {
	if who < 0 || who >= len(b.tasks) || b.tasks[who] == nil {
		return false
	}
	if k := b.tasks[who]; k.Step(b.cells, b.now) {
		d := &b.deeds[b.deed[who]]
		d.To, d.Reply = b.moves, k.Reply()
		b.tasks[who], b.busy[who] = nil, false
	}
	b.moves++
	b.now++
	return true
}

// sees is what is to be seen.
func (b *bare) sees() sight {
	s := b.sight
	s.log = b.cells.Log()
	for slot := range s.conf.All() {
		s.words[slot], s.values[slot] = b.cells.Peek(s.conf.Word(slot)), b.cells.Peek(s.conf.Value(slot))
	}
	return s
}

// P13.1, P13.2: of whatever Calls, Steps and Passes, right and wrong, all is seen as of tasks that are done bare.
func TestBare(t *testing.T) {
	x := numbers(6)
	for range 200 {
		c := x.conf()
		y := yardOf(t, c)
		b := &bare{sight: fresh(c), cells: mem.New(c.Cells()), tasks: make([]*task.Task, c.Threads), deed: make([]int, c.Threads)}
		for range 300 {
			who := x.under(c.Threads+2) - 1
			switch x.under(9) {
			case 0, 1:
				call := Call{Kind: task.Kind(x.under(20) % 3), End: word.End(x.under(20) % 3), Value: uint64(x.under(9)), Start: x.under(9)}
				if e, want := y.Call(who, call), b.call(who, call); e != want {
					t.Errorf("Call of %d, %v: %v, want %v", who, call, e.Word(), want.Word())
				}
			case 2:
				n := x.under(6) - 2
				y.Pass(n)
				b.now += max(n, 0)
			default:
				if ok := y.Step(who); ok != b.step(who) {
					t.Errorf("a step of thread %d: %v", who, ok)
				}
			}
		}
		seen(t, y, b.sees())
	}
}
