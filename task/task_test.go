package task_test

import (
	"math"
	"slices"
	"testing"

	"stackyard/get"
	"stackyard/lay"
	"stackyard/mem"
	"stackyard/put"
	"stackyard/stamp"
	"stackyard/task"
	"stackyard/tick"
	"stackyard/word"
)

type (
	C     = lay.Conf
	Call  = task.Call
	Reply = task.Reply
	S     = stamp.Stamp
	W     = word.Word
)

const top = math.MaxUint64

// stranger is none of the threads: who turns cells beside the steps that are held.
const stranger = -9

var (
	live = W{State: word.Live, End: word.Right, Gen: 1, Stamp: S{Lo: 2, Hi: 3}}
	gone = W{State: word.Gone, End: word.Right, Gen: 4, Stamp: S{Lo: 5, Hi: 9}}
)

// cells are those of c, with these Words, place by place from 0 on; what is in a place is its number and 100.
func cells(c C, words ...W) *mem.Mem {
	m := mem.New(c.Cells())
	for i, w := range words {
		m.Store(stranger, c.Word(i), w.Pack())
	}
	for i := range c.All() {
		m.Store(stranger, c.Value(i), uint64(i+100))
	}
	return m
}

func putting(end word.End, value uint64) Call {
	return Call{Kind: task.Put, End: end, Value: value}
}

func getting(end word.End, start int) Call {
	return Call{Kind: task.Get, End: end, Start: start}
}

// putAt is the Reply of a Put whose stamp is from a number to it.
func putAt(at int) Reply { return Reply{OK: true, Stamp: S{Lo: at, Hi: at}} }

// got is the Reply of a Get that had a value.
func got(value uint64) Reply { return Reply{OK: true, Value: value} }

// stands tells of a Task that isn't as it should be.
func stands(t *testing.T, k *task.Task, call Call, over bool, r Reply) {
	t.Helper()
	if k.Call() != call || k.Over() != over || k.Reply() != r {
		t.Errorf("Call %v, Over %v, Reply %v, want %v, %v, %v", k.Call(), k.Over(), k.Reply(), call, over, r)
	}
}

// goes does the steps that are left, one at each time from now on, and holds that each touches one cell at most, and
// how it ends.
func goes(t *testing.T, k *task.Task, m *mem.Mem, now, steps int, r Reply) {
	t.Helper()
	call := k.Call()
	for i := range steps {
		stands(t, k, call, false, Reply{})
		was := m.Count()
		if over := k.Step(m, now+i); over != (i == steps-1) {
			t.Errorf("step %d of %d: over %v", i+1, steps, over)
		}
		if m.Count() > was+1 {
			t.Errorf("a step touches %d cells", m.Count()-was)
		}
	}
	stands(t, k, call, true, r)
	rests(t, k, m, now+steps)
}

// rests holds that a Task that is over does nothing any more.
func rests(t *testing.T, k *task.Task, m *mem.Mem, now int) {
	t.Helper()
	call, r, was := k.Call(), k.Reply(), m.Count()
	for i := range 20 {
		if !k.Step(m, now+i) {
			t.Error("behind its end it isn't over")
		}
		stands(t, k, call, true, r)
	}
	if m.Count() != was {
		t.Error("a step behind the last one touches a cell")
	}
}

// same holds that just the same was done to both.
func same(t *testing.T, got, want *mem.Mem) {
	t.Helper()
	if !slices.Equal(got.Log(), want.Log()) {
		t.Errorf("noted is %v\nwant     %v", got.Log(), want.Log())
	}
}

// P12.1: Right: the Kind is Put or Get, the End Left or Right; Value and Start may be any.
func TestRight(t *testing.T) {
	if task.Put != 0 || task.Get != 1 {
		t.Errorf("Put is %d, Get %d", task.Put, task.Get)
	}
	numbers := []int{math.MinInt, -1, 0, 1, 2, 3, 1 << 32, 1<<32 + 1, math.MaxInt}
	for _, kind := range numbers {
		for _, end := range numbers {
			want := (kind == 0 || kind == 1) && (end == 0 || end == 1)
			for _, value := range []uint64{0, 7, top} {
				for _, start := range []int{math.MinInt, -1, 0, 5, math.MaxInt} {
					call := Call{Kind: task.Kind(kind), End: word.End(end), Value: value, Start: start}
					if call.Right() != want {
						t.Errorf("%v Right: %v", call, call.Right())
					}
				}
			}
		}
	}
}

// P12.1: a new one isn't over, has no Reply, and tells what was asked for, to the letter; asking is no step.
func TestNew(t *testing.T) {
	for _, c := range []C{{Threads: 1, Slots: 1}, {Threads: 64, Slots: 64, Source: lay.Wide, Delay: 100}} {
		for _, call := range []Call{
			{},
			{Kind: task.Put, End: word.Right, Value: top, Start: math.MinInt},
			{Kind: task.Get, End: word.Left, Value: 9, Start: -3},
			{Kind: task.Get, End: word.Right, Value: top, Start: math.MaxInt},
		} {
			k := task.New(c, c.Threads-1, call)
			for range 20 {
				stands(t, k, call, false, Reply{})
			}
		}
	}
}

// P12.1: the chapter's example: a Put of 7, alone, by Count; and of other values, at both ends.
func TestExample(t *testing.T) {
	for _, value := range []uint64{7, 0, 1, top} {
		for _, end := range []word.End{word.Left, word.Right} {
			c := C{Threads: 1, Slots: 1}
			m := mem.New(c.Cells())
			goes(t, task.New(c, 0, putting(end, value)), m, 0, 4, putAt(0))
			w := W{State: word.Live, End: end, Gen: 1}
			if m.Peek(c.Value(0)) != value || m.Peek(c.Word(0)) != w.Pack() {
				t.Errorf("the Value is %d, the Word %x", m.Peek(c.Value(0)), m.Peek(c.Word(0)))
			}
			goes(t, task.New(c, 0, getting(end.Other(), 5)), m, 0, 7, got(value))
			goes(t, task.New(c, 0, getting(end, 5)), m, 0, 2, Reply{})
		}
	}
}

// P12.1: a Put's Reply is OK and its Stamp, by each Source, at the times of its steps; it tells no Value.
func TestPut(t *testing.T) {
	for _, x := range []struct {
		source lay.Source
		steps  int
		want   S
	}{
		{lay.Count, 4, S{Lo: 40, Hi: 40}},
		{lay.Stutter, 6, S{Lo: 41, Hi: 41}},
		{lay.Swap, 6, S{Lo: 40, Hi: 40}},
		{lay.Clock, 4, S{Lo: 31, Hi: 31}},
		{lay.Wide, 8, S{Lo: 31, Hi: 35}},
	} {
		c := C{Threads: 2, Slots: 2, Source: x.source, Delay: 3}
		m := cells(c)
		m.Store(stranger, c.Number(0), 40)
		goes(t, task.New(c, 1, putting(word.Left, 7)), m, 30, x.steps, Reply{OK: true, Stamp: x.want})
		w := W{State: word.Live, End: word.Left, Gen: 1, Stamp: x.want}
		if m.Peek(c.Value(2)) != 7 || m.Peek(c.Word(2)) != w.Pack() {
			t.Errorf("Source %d: the Value is %d, the Word %x", x.source, m.Peek(c.Value(2)), m.Peek(c.Word(2)))
		}
	}
}

// P12.1: a Get's Reply is OK and its Value, at whatever time; it tells no Stamp.
func TestGet(t *testing.T) {
	c := C{Threads: 2, Slots: 2}
	later := W{State: word.Live, End: word.Right, Gen: 1, Stamp: S{Lo: 7, Hi: 7}}
	for _, now := range []int{0, 30, math.MaxInt - 50} {
		for _, start := range []int{0, 3, -1, math.MinInt, math.MaxInt} {
			for who := range c.Threads {
				m := cells(c, gone, later, live)
				goes(t, task.New(c, who, getting(word.Right, start)), m, now, 13, got(101))
				goes(t, task.New(c, who, getting(word.Left, start)), m, now, 13, got(102))
				goes(t, task.New(c, who, getting(word.Left, start)), m, now, 8, Reply{})
			}
		}
	}
}

// P12.1: of Full there is no Reply: of a Put without a place, or a stamp, and of a Get that finds nothing.
func TestFull(t *testing.T) {
	c := C{Threads: 2, Slots: 2}
	clock := C{Threads: 2, Slots: 2, Source: lay.Clock}
	for _, x := range []struct {
		c     C
		call  Call
		words []W
		now   int
		steps int
		want  Reply
	}{
		{c, putting(word.Right, 7), []W{live, live}, 0, 2, Reply{}},
		{c, putting(word.Left, 0), []W{live, live, gone}, 0, 2, Reply{}},
		{clock, putting(word.Left, 7), nil, stamp.Top - 1, 2, Reply{}},
		{clock, putting(word.Left, 7), nil, stamp.Top - 2, 4, putAt(stamp.Top - 1)},
		{clock, putting(word.Left, 7), []W{gone}, stamp.Top - 4, 6, putAt(stamp.Top - 1)},
		{clock, putting(word.Left, 7), []W{gone}, stamp.Top - 3, 4, Reply{}},
		{c, getting(word.Right, 7), nil, 0, 8, Reply{}},
		{c, getting(word.Left, 7), []W{gone, {Gen: 9}, gone, gone}, 0, 8, Reply{}},
	} {
		goes(t, task.New(x.c, 0, x.call), cells(x.c, x.words...), x.now, x.steps, x.want)
	}
}

// P12.1: what is nought is told as such: a Reply of a Get of 0 is OK, and so is a Put's with the stamp from 0 to 0.
func TestNought(t *testing.T) {
	c := C{Threads: 1, Slots: 1, Source: lay.Count}
	m := mem.New(c.Cells())
	goes(t, task.New(c, 0, putting(word.Right, 0)), m, 0, 4, Reply{OK: true})
	goes(t, task.New(c, 0, getting(word.Right, 0)), m, 0, 7, Reply{OK: true})
	goes(t, task.New(c, 0, getting(word.Right, 0)), m, 0, 2, Reply{})
}

// P12.1: a Get of what is lost isn't over; behind its next try it is.
func TestLost(t *testing.T) {
	c := C{Threads: 1, Slots: 2}
	m := cells(c, live, live)
	k := task.New(c, 0, getting(word.Right, 0))
	for range 4 {
		k.Step(m, 0)
	}
	m.Store(stranger, c.Word(1), live.Taken().Pack())
	goes(t, k, m, 0, 3+9, got(100))
}

// Rule 1: a call that isn't Right ends too: there is nothing to be done for it, so it is over, and no cell is touched.
func TestNotRight(t *testing.T) {
	for _, call := range []Call{
		{Kind: 2}, {Kind: -1}, {Kind: math.MinInt}, {Kind: math.MaxInt, Value: 7},
		{End: 2}, {End: -1, Value: 7}, {Kind: task.Get, End: 2, Start: 3}, {Kind: task.Get, End: math.MinInt},
		{Kind: 2, End: 2, Value: top, Start: math.MinInt},
	} {
		for _, c := range []C{{Threads: 1, Slots: 1}, {Threads: 3, Slots: 2, Source: lay.Wide, Delay: 4}} {
			goes(t, task.New(c, c.Threads-1, call), cells(c, live), 0, 0, Reply{})
		}
	}
}

// P12.1: what it does hangs on the cells that it is handed at that step.
func TestOtherCells(t *testing.T) {
	c := C{Threads: 1, Slots: 2}
	a, b := cells(c, live), cells(c)
	a.Store(stranger, c.Number(0), 3)
	b.Store(stranger, c.Number(0), 4)
	k := task.New(c, 0, putting(word.Left, 7))
	for i, m := range []*mem.Mem{a, b, b, a, b} {
		was := m.Count()
		if over := k.Step(m, 0); over != (i == 4) || m.Count() != was+1 {
			t.Errorf("step %d: over %v, %d cells touched", i+1, over, m.Count()-was)
		}
	}
	stands(t, k, k.Call(), true, putAt(4))
}

// P12.1: two that are under way at one time are two: what one of them does is not to be seen in the other one.
func TestTwo(t *testing.T) {
	c := C{Threads: 2, Slots: 1}
	m := mem.New(c.Cells())
	a, b := task.New(c, 0, putting(word.Right, 1)), task.New(c, 1, putting(word.Right, 2))
	a.Step(m, 0)
	goes(t, b, m, 0, 4, putAt(0))
	goes(t, a, m, 0, 3, putAt(1))
	a, b = task.New(c, 0, getting(word.Right, 0)), task.New(c, 1, getting(word.Right, 0))
	a.Step(m, 0)
	goes(t, b, m, 0, 9, got(1)) // of 1 the stamp is later
	goes(t, a, m, 0, 3+2+5, got(2))
}

// numbers makes numbers by a rule.
type numbers uint64

func (x *numbers) under(n int) int {
	*x = *x*6364136223846793005 + 1442695040888963407
	return int(*x>>33) % n
}

func (x *numbers) conf() C {
	return C{Threads: 1 + x.under(4), Slots: 1 + x.under(3), Source: lay.Source(x.under(5)), Delay: x.under(4)}
}

func (x *numbers) call() Call {
	return Call{Kind: task.Kind(x.under(2)), End: word.End(x.under(2)), Value: uint64(x.under(1000)), Start: x.under(100) - 50}
}

// bare is a call that is done by layer 10's Put, or layer 11's Get, alone.
type bare struct {
	put *put.Put
	get *get.Get
}

func begin(c C, who int, call Call) bare {
	if call.Kind == task.Put {
		return bare{put: put.New(c, who, call.End, call.Value)}
	}
	return bare{get: get.New(c, who, call.End, call.Start)}
}

// step does a step: is it over, and what came of it?
func (b bare) step(m *mem.Mem, now int) (bool, Reply) {
	if b.put != nil {
		switch b.put.Step(m, now) {
		case tick.Done:
			return true, Reply{OK: true, Stamp: b.put.Stamp()}
		case tick.Full:
			return true, Reply{}
		}
		return false, Reply{}
	}
	switch b.get.Step(m) {
	case tick.Done:
		return true, Reply{OK: true, Value: b.get.Value()}
	case tick.Full:
		return true, Reply{}
	}
	return false, Reply{}
}

// P12.1: of many threads at once, in orders made by a rule of numbers, with a stranger who turns Words meanwhile:
// step by step just what the bare Puts and Gets do to other cells.
func TestMany(t *testing.T) {
	x := numbers(5)
	ends := map[task.Kind]map[bool]int{task.Put: {}, task.Get: {}}
	for range 300 {
		c := x.conf()
		m, other := mem.New(c.Cells()), mem.New(c.Cells())
		tasks, bares := make([]*task.Task, c.Threads), make([]bare, c.Threads)
		now := x.under(50)
		if x.under(9) == 0 {
			now = stamp.Top - x.under(600)
		}
		for range 500 {
			who := x.under(c.Threads)
			if tasks[who] == nil {
				call := x.call()
				tasks[who], bares[who] = task.New(c, who, call), begin(c, who, call)
				stands(t, tasks[who], call, false, Reply{})
			}
			if x.under(60) == 0 {
				cell := c.Word(x.under(c.All()))
				w := word.Unpack(m.Peek(cell)).Taken()
				m.Store(stranger, cell, w.Pack())
				other.Store(stranger, cell, w.Pack())
			}
			k := tasks[who]
			told := k.Step(m, now)
			over, r := bares[who].step(other, now)
			if told != over {
				t.Errorf("%v: a step of %v tells %v, want %v", c, k.Call(), told, over)
			}
			stands(t, k, k.Call(), over, r)
			if over {
				ends[k.Call().Kind][r.OK]++
				tasks[who] = nil
			}
			now += x.under(3)
		}
		same(t, m, other)
	}
	for kind, n := range ends {
		if n[true] == 0 || n[false] == 0 {
			t.Errorf("Kind %d: not all ends were held: %v", kind, n)
		}
	}
}

// P12.1: one behind the other, calls are those of a row with two ends, by each Source.
func TestRow(t *testing.T) {
	x := numbers(6)
	for range 200 {
		c := x.conf()
		m, now := mem.New(c.Cells()), 0
		var row []uint64
		for range 200 {
			call := x.call()
			k := task.New(c, x.under(c.Threads), call)
			for steps := 0; steps < 1000 && !k.Step(m, now); steps++ {
				now++
			}
			now++
			r := k.Reply()
			if call.Kind == task.Get {
				var want Reply
				row, want = taken(row, call.End)
				stands(t, k, call, true, want)
			} else if stands(t, k, call, true, Reply{OK: r.OK, Stamp: r.Stamp}); r.OK && call.End == word.Left {
				row = slices.Insert(row, 0, call.Value)
			} else if r.OK {
				row = append(row, call.Value)
			} else if len(row) < c.Slots {
				t.Errorf("%v: a Put is refused while %d are in", c, len(row))
			}
		}
	}
}

// taken is a row without what stood at an end, and the Reply of that.
func taken(row []uint64, end word.End) ([]uint64, Reply) {
	if len(row) == 0 {
		return row, Reply{}
	}
	if end == word.Left {
		return row[1:], got(row[0])
	}
	last := len(row) - 1
	return row[:last], got(row[last])
}
