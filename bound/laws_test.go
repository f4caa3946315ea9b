package bound_test

import (
	"slices"
	"testing"

	"stackyard/api"
	"stackyard/bound"
	"stackyard/lay"
	"stackyard/task"
	"stackyard/word"
	"stackyard/yard"
)

// numbers makes numbers by a rule.
type numbers uint64

func (x *numbers) under(n int) int {
	*x = *x*6364136223846793005 + 1442695040888963407
	return int(*x>>33) % n
}

func (x *numbers) conf() C {
	return C{Threads: 1 + x.under(4), Slots: 1 + x.under(3), Source: lay.Source(x.under(5)), Delay: x.under(2) * x.under(30)}
}

// call is whichever.
func (x *numbers) call() task.Call {
	return task.Call{Kind: task.Kind(x.under(2)), End: word.End(x.under(2)), Value: 7, Start: x.under(50)}
}

// watch counts what is done in a yard.
type watch struct {
	yard  *yard.Yard
	own   []int // of each deed, how many steps it took
	turns []int // and how many Words were turned by other threads meanwhile
	deed  []int // of each thread, which of the deeds is its last one
	steps int
	ends  []int // the steps by which a call was over
}

func watchOf(t *testing.T, c C) *watch {
	t.Helper()
	y, e := yard.New(c)
	if e != api.OK {
		t.Fatalf("%v: %s", c, e.Word())
	}
	return &watch{yard: y, deed: make([]int, c.Threads)}
}

// begins begins a call.
func (w *watch) begins(t *testing.T, who int, c task.Call) {
	t.Helper()
	if e := w.yard.Call(who, c); e != api.OK {
		t.Fatalf("%v of thread %d: %s", c, who, e.Word())
	}
	w.deed[who] = len(w.own)
	w.own, w.turns = append(w.own, 0), append(w.turns, 0)
}

// step does a step of a thread that has a call.
func (w *watch) step(t *testing.T, who int) {
	t.Helper()
	was := w.yard.Words()
	if !w.yard.Step(who) {
		t.Fatalf("a step of thread %d is none", who)
	}
	w.own[w.deed[who]]++
	if !slices.Equal(w.yard.Words(), was) {
		for other, deed := range w.deed {
			if other != who && w.yard.Busy(other) {
				w.turns[deed]++
			}
		}
	}
	if !w.yard.Busy(who) {
		w.ends = append(w.ends, w.steps)
	}
	w.steps++
}

// does does a call from its beginning to its end.
func (w *watch) does(t *testing.T, who int, c task.Call) {
	t.Helper()
	w.begins(t, who, c)
	for w.yard.Busy(who) {
		w.step(t, who)
	}
}

// holds holds all calls, and all steps, against their bounds.
func (w *watch) holds(t *testing.T) {
	t.Helper()
	c := w.yard.Conf()
	for i, d := range w.yard.Deeds() {
		most := bound.Put(c)
		if d.Call.Kind == task.Get {
			most = bound.Get(c, w.turns[i])
		}
		if w.own[i] > most || w.own[i] == most && d.To < 0 {
			t.Errorf("%v: %v took %d steps, %d at most, of %d turns", c, d, w.own[i], most, w.turns[i])
		}
	}
	if gap, window := bound.Gaps(w.ends, w.steps), bound.Window(c); gap > window || w.steps-1-last(w.ends) >= window {
		t.Errorf("%v: %d steps between two ends, the Window is %d", c, gap, window)
	}
}

// last is the last one of some steps; none is ahead of all.
func last(ends []int) int {
	if len(ends) == 0 {
		return -1
	}
	return ends[len(ends)-1]
}

// P16.2: whoever steps, whatever calls there are, stopped anywhere: all stays within its bounds.
func TestWhatever(t *testing.T) {
	x := numbers(1)
	for range 400 {
		w := watchOf(t, x.conf())
		c := w.yard.Conf()
		slow := x.under(c.Threads) // it steps less often than the others: most is turned under its hands
		for range x.under(1500) {
			who := x.under(c.Threads)
			if who == slow && x.under(3) > 0 {
				continue
			}
			switch {
			case w.yard.Busy(who):
				w.step(t, who)
			case x.under(3) == 0:
				w.begins(t, who, x.call())
			default:
				w.yard.Pass(x.under(3))
			}
		}
		w.holds(t)
	}
}

// waits does so many passes of a thread's Get.
func (w *watch) waits(t *testing.T, who, passes int) {
	t.Helper()
	for range passes * w.yard.Conf().All() {
		w.step(t, who)
	}
}

// P16.2: a Get of which others take, again and again, what it is about to take: each turn makes it begin anew, once.
func TestGetLost(t *testing.T) {
	for _, c := range []C{{Threads: 2, Slots: 5}, {Threads: 3, Slots: 7, Source: lay.Clock}, {Threads: 2, Slots: 64, Source: lay.Swap}} {
		w := watchOf(t, c)
		for range bound.Room(c) {
			w.does(t, 1, task.Call{End: word.Right, Value: 7})
		}
		get := task.Call{Kind: task.Get, End: word.Right}
		w.begins(t, 0, get)
		deed := len(w.own) - 1
		for range c.Slots {
			w.waits(t, 0, 2)
			w.does(t, 1, get)
			for range 3 { // it says at which place it looks, finds it turned, and says that it doesn't any more
				w.step(t, 0)
			}
		}
		w.waits(t, 0, 2)
		w.holds(t)
		d := w.yard.Deeds()[deed]
		if d.To < 0 || d.Reply.OK || w.turns[deed] != c.Slots || w.own[deed] != c.Slots*(2*c.All()+3)+2*c.All() {
			t.Errorf("%v: %v took %d steps of %d turns", c, d, w.own[deed], w.turns[deed])
		}
	}
}

// P16.2: a Get between whose passes something is put in, or taken, each time: each turn makes it read all once more.
func TestGetPasses(t *testing.T) {
	c := C{Threads: 2, Slots: 3}
	w := watchOf(t, c)
	w.begins(t, 0, task.Call{Kind: task.Get})
	const turns = 40
	for i := range turns {
		w.waits(t, 0, 1)
		w.does(t, 1, task.Call{Kind: task.Kind(i % 2), Value: 7})
	}
	w.waits(t, 0, 2)
	w.holds(t)
	d := w.yard.Deeds()[0]
	if d.To < 0 || d.Reply.OK || w.turns[0] != turns || w.own[0] != (turns+2)*c.All() {
		t.Errorf("%v took %d steps of %d turns", d, w.own[0], w.turns[0])
	}
}

// P16.2: a Put into a thread's only place, which is Gone, takes as many steps as it may.
func TestPutLong(t *testing.T) {
	for source := lay.Count; source <= lay.Wide; source++ {
		c := C{Threads: 3, Slots: 1, Source: source, Delay: 9}
		w := watchOf(t, c)
		w.does(t, 1, task.Call{Value: 7})
		w.does(t, 1, task.Call{Kind: task.Get})
		w.begins(t, 1, task.Call{Value: 8})
		deed := len(w.own) - 1
		for w.yard.Busy(1) {
			w.step(t, 1)
		}
		w.holds(t)
		want := bound.Put(c)
		if source == lay.Swap {
			want-- // its stamp takes a fourth step only if another thread was quicker
		}
		if w.own[deed] != want {
			t.Errorf("%v: a Put took %d steps, %d at most", c, w.own[deed], bound.Put(c))
		}
	}
}

// P16.2: time may go by, and calls may begin, between the steps of a Window: they are no steps.
func TestWindow(t *testing.T) {
	for _, c := range []C{{Threads: 1, Slots: 1}, {Threads: 4, Slots: 2}, {Threads: 64, Slots: 1}, {Threads: 2, Slots: 2, Source: lay.Wide, Delay: 100}} {
		w := watchOf(t, c)
		for who := range c.Threads {
			w.begins(t, who, task.Call{Kind: task.Kind(who % 2), Value: 7})
			w.yard.Pass(1000)
		}
		for round := 0; round < bound.Window(c) && w.steps < 20000; round++ {
			for who := range c.Threads {
				if !w.yard.Busy(who) {
					w.begins(t, who, task.Call{Kind: task.Kind(round % 2), Value: 7})
				}
				w.step(t, who)
			}
		}
		w.holds(t)
		if len(w.ends) == 0 {
			t.Errorf("%v: no call is over", c)
		}
	}
}

// P16.1: Room is how many values one thread puts in, until one of its Puts is refused.
func TestRoom(t *testing.T) {
	for _, c := range []C{{Threads: 1, Slots: 1}, {Threads: 2, Slots: 5}, {Threads: 3, Slots: 64, Source: lay.Clock}} {
		w := watchOf(t, c)
		for range bound.Room(c) + 1 {
			w.does(t, c.Threads-1, task.Call{Value: 7})
		}
		for i, d := range w.yard.Deeds() {
			if d.Reply.OK != (i < bound.Room(c)) {
				t.Errorf("%v: the Put number %d is OK: %v", c, i, d.Reply.OK)
			}
		}
		w.holds(t)
	}
}
