package yard_test

import (
	"math"
	"slices"
	"testing"

	"stackyard/api"
	"stackyard/lay"
	"stackyard/mem"
	"stackyard/stamp"
	"stackyard/task"
	"stackyard/word"
	"stackyard/yard"
)

type (
	C     = lay.Conf
	Call  = task.Call
	Deed  = yard.Deed
	Reply = task.Reply
	S     = stamp.Stamp
	W     = word.Word
	Yard  = yard.Yard
)

const top = math.MaxUint64

func putting(end word.End, value uint64) Call {
	return Call{Kind: task.Put, End: end, Value: value}
}

func getting(end word.End, start int) Call {
	return Call{Kind: task.Get, End: end, Start: start}
}

// putAt is the Reply of a Put whose stamp is from a number to it.
func putAt(at int) Reply { return Reply{OK: true, Stamp: S{Lo: at, Hi: at}} }

// got is the Reply of a Get that had a value.
func got(value uint64) Reply { return Reply{OK: true, Value: value} }

// yardOf is a new yard.
func yardOf(t *testing.T, c C) *Yard {
	t.Helper()
	y, e := yard.New(c)
	if e != api.OK || y == nil {
		t.Fatalf("New of %v: %v", c, e.Word())
	}
	return y
}

// calls begins a call.
func calls(t *testing.T, y *Yard, who int, c Call) {
	t.Helper()
	if e := y.Call(who, c); e != api.OK {
		t.Fatalf("Call of %d, %v: %v", who, c, e.Word())
	}
}

// steps does n steps of a thread that has a call all the while.
func steps(t *testing.T, y *Yard, who, n int) {
	t.Helper()
	for i := range n {
		if !y.Step(who) {
			t.Fatalf("step %d of %d of thread %d is none", i+1, n, who)
		}
	}
}

// ends does the steps that a thread's call has left, and tells how many there were.
func ends(t *testing.T, y *Yard, who int) int {
	t.Helper()
	n := 0
	for ; y.Busy(who); n++ {
		if n > 10000 {
			t.Fatalf("the call of thread %d doesn't end", who)
		}
		steps(t, y, who, 1)
	}
	return n
}

// does does a call from its beginning to its end, and tells how many steps it took.
func does(t *testing.T, y *Yard, who int, c Call) int {
	t.Helper()
	calls(t, y, who, c)
	return ends(t, y, who)
}

// sight is all that can be seen of a yard.
type sight struct {
	now    int
	conf   C
	busy   []bool
	deeds  []Deed
	log    []mem.Event
	words  []uint64
	values []uint64
}

func look(y *Yard) sight {
	s := sight{now: y.Now(), conf: y.Conf(), deeds: y.Deeds(), log: y.Log(), words: y.Words(), values: y.Values()}
	for who := range s.conf.Threads {
		s.busy = append(s.busy, y.Busy(who))
	}
	return s
}

func (s sight) same(o sight) bool {
	return s.now == o.now && s.conf == o.conf && slices.Equal(s.busy, o.busy) && slices.Equal(s.deeds, o.deeds) &&
		slices.Equal(s.log, o.log) && slices.Equal(s.words, o.words) && slices.Equal(s.values, o.values)
}

// seen holds what can be seen of a yard.
func seen(t *testing.T, y *Yard, want sight) {
	t.Helper()
	if s := look(y); !s.same(want) {
		t.Errorf("to be seen is %v\nwant          %v", s, want)
	}
}

// fresh is what can be seen of a yard in which nothing was done yet.
func fresh(c C) sight {
	return sight{
		conf: c, busy: make([]bool, c.Threads),
		words: make([]uint64, c.All()), values: make([]uint64, c.All()),
	}
}

// deeds holds all calls that were begun.
func deeds(t *testing.T, y *Yard, want ...Deed) {
	t.Helper()
	if list := y.Deeds(); !slices.Equal(list, want) {
		t.Errorf("Deeds %v\nwant  %v", list, want)
	}
}

// P13.1: New: of what isn't Right ErrArg, and no yard.
func TestNewWrong(t *testing.T) {
	for _, c := range []C{
		{}, {Threads: 1}, {Slots: 1}, {Threads: -1, Slots: 1}, {Threads: 1, Slots: -1},
		{Threads: 65, Slots: 1}, {Threads: 1, Slots: 65}, {Threads: math.MaxInt, Slots: math.MaxInt},
		{Threads: 1, Slots: 1, Source: lay.Wide + 1}, {Threads: 1, Slots: 1, Source: -1},
		{Threads: 1, Slots: 1, Delay: -1}, {Threads: 1, Slots: 1, Delay: 101}, {Threads: 1, Slots: 1, Delay: math.MinInt},
	} {
		if y, e := yard.New(c); y != nil || e != api.ErrArg {
			t.Errorf("New of %v: %v, %v", c, y, e.Word())
		}
	}
}

// P13.1: New: of what is Right, to the edges, cells that are nought, no calls, and the time 0.
func TestNew(t *testing.T) {
	for source := lay.Count; source <= lay.Wide; source++ {
		for _, c := range []C{
			{Threads: 1, Slots: 1}, {Threads: 2, Slots: 3, Delay: 5}, {Threads: 64, Slots: 1}, {Threads: 1, Slots: 64},
			{Threads: 64, Slots: 64, Delay: 100},
		} {
			c.Source = source
			seen(t, yardOf(t, c), fresh(c))
		}
	}
}

// P13.2: the chapter's example, and at both ends.
func TestExample(t *testing.T) {
	for _, end := range []word.End{word.Left, word.Right} {
		y := yardOf(t, C{Threads: 1, Slots: 1})
		calls(t, y, 0, putting(end, 7))
		steps(t, y, 0, 3)
		deeds(t, y, Deed{Call: putting(end, 7), To: -1})
		steps(t, y, 0, 1)
		deeds(t, y, Deed{Call: putting(end, 7), To: 4, Reply: putAt(0)})
		calls(t, y, 0, getting(end, 0))
		steps(t, y, 0, 6)
		if !y.Busy(0) {
			t.Error("the Get is over too early")
		}
		steps(t, y, 0, 1)
		if y.Busy(0) || y.Now() != 11 {
			t.Errorf("Busy %v, Now %d", y.Busy(0), y.Now())
		}
		deeds(t, y,
			Deed{Call: putting(end, 7), To: 4, Reply: putAt(0)},
			Deed{Call: getting(end, 0), From: 5, To: 12, Reply: got(7)})
		w := W{State: word.Gone, End: end, Gen: 1}
		if !slices.Equal(y.Words(), []uint64{w.Pack()}) || !slices.Equal(y.Values(), []uint64{7}) {
			t.Errorf("Words %x, Values %d", y.Words(), y.Values())
		}
	}
}

// P13.1: Call: ErrArg, if there is no such thread, or the call isn't Right, whether the thread has one or not;
// ErrBusy only then; and it changes nothing, nor is it numbered.
func TestCallWrong(t *testing.T) {
	y := yardOf(t, C{Threads: 2, Slots: 1})
	refused := func(who int, c Call, want api.Errno) {
		t.Helper()
		was := look(y)
		if e := y.Call(who, c); e != want {
			t.Errorf("Call of %d, %v: %v, want %v", who, c, e.Word(), want.Word())
		}
		seen(t, y, was)
	}
	wrong := []Call{
		{Kind: 2}, {Kind: -1}, {End: 2}, {End: -1}, {Kind: task.Get, End: 2},
		{Kind: math.MaxInt, Value: 7}, {End: math.MinInt, Start: 3},
	}
	all := func() {
		for _, who := range []int{-1, 2, 3, 64, math.MinInt, math.MaxInt} {
			refused(who, putting(word.Left, 7), api.ErrArg)
			refused(who, Call{Kind: 2}, api.ErrArg)
		}
		for _, c := range wrong {
			refused(0, c, api.ErrArg)
			refused(1, c, api.ErrArg)
		}
	}
	all()
	calls(t, y, 1, putting(word.Right, 8))
	all()
	refused(1, getting(word.Right, 0), api.ErrBusy)
	refused(1, putting(word.Right, 8), api.ErrBusy)
	steps(t, y, 1, 3)
	all()
	refused(1, getting(word.Right, 0), api.ErrBusy)
	steps(t, y, 1, 1)
	all()
	deeds(t, y, Deed{Who: 1, Call: putting(word.Right, 8), To: 4, Reply: putAt(0)})
	calls(t, y, 1, getting(word.Right, 0))
	deeds(t, y,
		Deed{Who: 1, Call: putting(word.Right, 8), To: 4, Reply: putAt(0)},
		Deed{Who: 1, Call: getting(word.Right, 0), From: 5, To: -1})
}

// P13.1: Call: of a Right call, Value and Start may be any, and Deeds tell it to the letter.
func TestCallAny(t *testing.T) {
	y := yardOf(t, C{Threads: 4, Slots: 1})
	list := []Call{
		{}, {Kind: task.Put, End: word.Right, Value: top, Start: math.MinInt},
		{Kind: task.Get, Value: 9, Start: -3}, {Kind: task.Get, End: word.Right, Value: top, Start: math.MaxInt},
	}
	var want []Deed
	for who, c := range list {
		calls(t, y, who, c)
		want = append(want, Deed{Who: who, Call: c, From: who, To: -1})
	}
	deeds(t, y, want...)
}

// P13.1: Step: of a thread that isn't there, or that has no call, false and nothing: no time goes by, no move is told.
func TestStepNone(t *testing.T) {
	y := yardOf(t, C{Threads: 2, Slots: 1})
	idle := func(list ...int) {
		t.Helper()
		was := look(y)
		for _, who := range append(list, -1, 2, 3, math.MinInt, math.MaxInt) {
			if y.Busy(who) || y.Step(who) {
				t.Errorf("a step of thread %d", who)
			}
		}
		seen(t, y, was)
	}
	idle(0, 1)
	calls(t, y, 0, putting(word.Left, 7))
	idle(1)
	steps(t, y, 0, 4)
	idle(0, 1)
	calls(t, y, 1, getting(word.Left, 0))
	idle(0)
	deeds(t, y,
		Deed{Call: putting(word.Left, 7), To: 4, Reply: putAt(0)},
		Deed{Who: 1, Call: getting(word.Left, 0), From: 5, To: -1})
}

// P13.1: Step: each one that is true is at the time Now, and behind it the time is one more: by Clock and Wide that
// is to be seen in the stamps.
func TestStepTime(t *testing.T) {
	for _, x := range []struct {
		source lay.Source
		steps  int
		want   S
	}{{lay.Clock, 4, S{Lo: 31, Hi: 31}}, {lay.Wide, 8, S{Lo: 31, Hi: 35}}} {
		c := C{Threads: 2, Slots: 1, Source: x.source, Delay: 3}
		y := yardOf(t, c)
		y.Pass(30)
		calls(t, y, 1, putting(word.Left, 7))
		for i := range x.steps {
			if y.Now() != 30+i {
				t.Errorf("Now %d behind %d steps", y.Now(), i)
			}
			steps(t, y, 1, 1)
		}
		deeds(t, y, Deed{Who: 1, Call: putting(word.Left, 7), To: x.steps, Reply: Reply{OK: true, Stamp: x.want}})
	}
}

// P13.1: time goes by between a call's steps, too, and another thread's steps let it go by.
func TestStepBetween(t *testing.T) {
	y := yardOf(t, C{Threads: 2, Slots: 2, Source: lay.Wide})
	calls(t, y, 0, putting(word.Left, 1))
	calls(t, y, 1, putting(word.Left, 2))
	steps(t, y, 0, 2) // at 0 and 1: its stamp begins at 1
	y.Pass(10)
	steps(t, y, 1, 5) // from 12 on: its stamp is from 13 to 14
	steps(t, y, 0, 3) // its stamp ends at 17
	deeds(t, y,
		Deed{Call: putting(word.Left, 1), To: 11, Reply: Reply{OK: true, Stamp: S{Lo: 1, Hi: 17}}},
		Deed{Who: 1, Call: putting(word.Left, 2), From: 1, To: 8, Reply: Reply{OK: true, Stamp: S{Lo: 13, Hi: 14}}})
}

// P13.1: Pass: n more, if n is above 0, and never above MaxTime; nothing else is changed.
func TestPass(t *testing.T) {
	if yard.MaxTime != 1<<40 {
		t.Errorf("MaxTime is %d", yard.MaxTime)
	}
	const most = yard.MaxTime
	for _, list := range [][][2]int{
		{{0, 0}, {-1, 0}, {1, 1}, {0, 1}, {-1, 1}, {math.MinInt, 1}, {99, 100}, {-100, 100}},
		{{most - 1, most - 1}, {1, most}, {1, most}, {-1, most}},
		{{most, most}, {most, most}, {math.MaxInt, most}},
		{{most + 1, most}, {0, most}, {math.MinInt, most}},
		{{5, 5}, {math.MaxInt, most}, {math.MaxInt, most}},
		{{most - 5, most - 5}, {4, most - 1}, {2, most}},
	} {
		c := C{Threads: 2, Slots: 1}
		y, want := yardOf(t, c), fresh(c)
		for _, x := range list {
			y.Pass(x[0])
			want.now = x[1]
			seen(t, y, want)
		}
	}
}

// P13.1: at MaxTime the time stays, though steps are done and numbered; by Clock there is no stamp any more.
func TestMaxTime(t *testing.T) {
	for _, x := range []struct {
		source lay.Source
		steps  int
		want   Reply
	}{{lay.Count, 4, putAt(0)}, {lay.Clock, 2, Reply{}}, {lay.Wide, 3, Reply{}}} {
		y := yardOf(t, C{Threads: 1, Slots: 1, Source: x.source})
		y.Pass(yard.MaxTime - 1)
		if n := does(t, y, 0, putting(word.Left, 7)); n != x.steps || y.Now() != yard.MaxTime {
			t.Errorf("Source %d: %d steps, the time is %d", x.source, n, y.Now())
		}
		deeds(t, y, Deed{Call: putting(word.Left, 7), To: x.steps, Reply: x.want})
	}
}

// P13.1: Busy is true from a thread's Call to its last Step, and false of a thread that isn't there.
func TestBusy(t *testing.T) {
	y := yardOf(t, C{Threads: 3, Slots: 1})
	holds := func(want ...bool) {
		t.Helper()
		for i, who := range []int{math.MinInt, -1, 0, 1, 2, 3, math.MaxInt} {
			if b := i >= 2 && i <= 4 && want[who]; y.Busy(who) != b {
				t.Errorf("thread %d: Busy %v", who, y.Busy(who))
			}
		}
	}
	holds(false, false, false)
	calls(t, y, 1, putting(word.Left, 7))
	holds(false, true, false)
	calls(t, y, 2, getting(word.Left, 0))
	steps(t, y, 1, 3)
	holds(false, true, true)
	steps(t, y, 1, 1)
	holds(false, false, true)
	calls(t, y, 0, getting(word.Left, 0))
	holds(true, false, true)
}

// P13.2: Deeds are in the order in which they were begun, whichever is over first; neither time that passes, nor
// Calls and Steps that are refused are moves.
func TestDeeds(t *testing.T) {
	y := yardOf(t, C{Threads: 3, Slots: 1})
	y.Step(0)
	y.Call(3, Call{})
	y.Pass(9)
	calls(t, y, 2, getting(word.Right, 1)) // move 0
	y.Step(0)
	calls(t, y, 0, putting(word.Left, 7)) // 1
	y.Call(0, Call{})
	y.Pass(9)
	steps(t, y, 0, 3) // 2 to 4
	y.Step(1)
	y.Call(2, Call{Kind: 2})
	steps(t, y, 2, 3) // 5 to 7
	y.Pass(9)
	calls(t, y, 1, putting(word.Right, 8)) // 8
	y.Pass(-9)
	steps(t, y, 0, 1) // 9
	y.Step(0)
	calls(t, y, 0, putting(word.Right, 9)) // 10
	deeds(t, y,
		Deed{Who: 2, Call: getting(word.Right, 1), From: 0, To: -1},
		Deed{Who: 0, Call: putting(word.Left, 7), From: 1, To: 9, Reply: putAt(0)},
		Deed{Who: 1, Call: putting(word.Right, 8), From: 8, To: -1},
		Deed{Who: 0, Call: putting(word.Right, 9), From: 10, To: -1})
	steps(t, y, 0, 1) // 11: its only place is Live
	steps(t, y, 1, 4) // 12 to 15
	deeds(t, y,
		Deed{Who: 2, Call: getting(word.Right, 1), From: 0, To: -1},
		Deed{Who: 0, Call: putting(word.Left, 7), From: 1, To: 9, Reply: putAt(0)},
		Deed{Who: 1, Call: putting(word.Right, 8), From: 8, To: 15, Reply: putAt(1)},
		Deed{Who: 0, Call: putting(word.Right, 9), From: 10, To: 11})
}

// P13.2: what is full, or finds nothing, is over with no Reply, and Deeds tell that by their To.
func TestNoReply(t *testing.T) {
	y := yardOf(t, C{Threads: 1, Slots: 2})
	does(t, y, 0, getting(word.Left, 0))
	does(t, y, 0, putting(word.Left, 0))
	does(t, y, 0, putting(word.Left, 1))
	does(t, y, 0, putting(word.Left, 2))
	does(t, y, 0, getting(word.Right, 0))
	deeds(t, y,
		Deed{Call: getting(word.Left, 0), From: 0, To: 4},
		Deed{Call: putting(word.Left, 0), From: 5, To: 9, Reply: Reply{OK: true}},
		Deed{Call: putting(word.Left, 1), From: 10, To: 15, Reply: putAt(1)},
		Deed{Call: putting(word.Left, 2), From: 16, To: 18},
		Deed{Call: getting(word.Right, 0), From: 19, To: 28, Reply: Reply{OK: true}})
}

// P13.2: Log, Words and Values tell what is there, in the midst of calls too.
func TestCells(t *testing.T) {
	c := C{Threads: 2, Slots: 2}
	y := yardOf(t, c)
	calls(t, y, 1, putting(word.Right, 7))
	steps(t, y, 1, 3)
	w := W{State: word.Live, End: word.Right, Gen: 1}.Pack()
	log := []mem.Event{
		{Who: 1, Op: mem.Load, Cell: c.Word(2), OK: true},
		{Who: 1, Op: mem.Add, Cell: c.Number(0), New: 1, OK: true},
		{Who: 1, Op: mem.Store, Cell: c.Value(2), New: 7, OK: true},
		{Who: 1, Op: mem.Store, Cell: c.Word(2), New: w, OK: true},
	}
	holds := func(log []mem.Event, words, values []uint64) {
		t.Helper()
		if !slices.Equal(y.Log(), log) || !slices.Equal(y.Words(), words) || !slices.Equal(y.Values(), values) {
			t.Errorf("Log %v, Words %x, Values %d", y.Log(), y.Words(), y.Values())
		}
	}
	holds(log[:3], []uint64{0, 0, 0, 0}, []uint64{0, 0, 7, 0})
	steps(t, y, 1, 1)
	holds(log, []uint64{0, 0, w, 0}, []uint64{0, 0, 7, 0})
	if m, ok := mem.Back(c.Cells(), y.Log()); !ok || m.Peek(c.Value(2)) != 7 {
		t.Error("the Log isn't one of these cells from the first on")
	}
}

// P13.1, P13.2: a nil Yard, and one that wasn't made by New: ErrArg, false, 0, nothing, a zero Conf.
func TestNone(t *testing.T) {
	for _, y := range []*Yard{nil, {}} {
		for _, who := range []int{0, -1, 1, math.MinInt, math.MaxInt} {
			for _, c := range []Call{{}, {Kind: 2}, getting(word.Right, 3)} {
				if e := y.Call(who, c); e != api.ErrArg {
					t.Errorf("Call: %v", e.Word())
				}
			}
			if y.Step(who) || y.Busy(who) {
				t.Error("a step")
			}
		}
		y.Pass(5)
		y.Pass(math.MaxInt)
		if y.Now() != 0 || y.Conf() != (C{}) {
			t.Errorf("Now %d, Conf %v", y.Now(), y.Conf())
		}
		if len(y.Deeds())+len(y.Log())+len(y.Words())+len(y.Values()) != 0 {
			t.Error("it tells something")
		}
	}
}

// Rule 3: an answer is new memory: who writes into it turns nothing in the yard, and a later call turns no answer.
func TestNewMemory(t *testing.T) {
	y := yardOf(t, C{Threads: 2, Slots: 2})
	does(t, y, 0, putting(word.Left, 7))
	calls(t, y, 1, getting(word.Left, 0))
	steps(t, y, 1, 12)
	was, kept := look(y), look(y)
	for _, d := range [][]Deed{y.Deeds(), y.Deeds()} {
		d[1] = Deed{Who: 9, To: 5, Reply: got(9)}
		d[0].Reply.OK = false
	}
	y.Log()[0] = mem.Event{Who: 9}
	y.Words()[0] = 9
	y.Values()[0] = 9
	_ = append(y.Deeds(), Deed{})
	seen(t, y, was)
	steps(t, y, 1, 1)
	does(t, y, 0, putting(word.Right, 8))
	if !was.same(kept) {
		t.Error("later calls turned what was told")
	}
	deeds(t, y,
		Deed{Call: putting(word.Left, 7), To: 4, Reply: putAt(0)},
		Deed{Who: 1, Call: getting(word.Left, 0), From: 5, To: 18, Reply: got(7)},
		Deed{Call: putting(word.Right, 8), From: 19, To: 25, Reply: putAt(1)})
}

// Rule 4: two yards are two.
func TestTwo(t *testing.T) {
	c := C{Threads: 1, Slots: 1}
	a, b := yardOf(t, c), yardOf(t, c)
	does(t, a, 0, putting(word.Left, 7))
	seen(t, b, fresh(c))
	does(t, b, 0, putting(word.Left, 7))
	seen(t, b, look(a))
}
