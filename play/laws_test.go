package play_test

import (
	"slices"
	"testing"

	"stackyard/api"
	"stackyard/audit"
	"stackyard/code"
	"stackyard/hist"
	"stackyard/lay"
	"stackyard/lin"
	"stackyard/play"
	"stackyard/task"
	"stackyard/word"
)

// numbers makes numbers by a rule.
type numbers uint64

func (x *numbers) under(n int) int {
	*x = *x*6364136223846793005 + 1442695040888963407
	return int(*x>>33) % n
}

func (x *numbers) conf() C {
	return C{Threads: 1 + x.under(4), Slots: 1 + x.under(3), Source: lay.Source(x.under(5)), Delay: x.under(6)}
}

// sides are the ends at which a script's calls put in, and take.
type sides struct{ put, get []word.End }

// whichever is at both ends; the others are those of a stack, or a queue.
var (
	left      = []word.End{word.Left}
	right     = []word.End{word.Right}
	both      = []word.End{word.Left, word.Right}
	whichever = sides{both, both}
	rows      = []sides{{left, left}, {right, right}, {left, right}, {right, left}}
)

// script is whichever that can be written, with so many moves, of threads that there are, and now and then of one that
// isn't there; no two of its Puts are of one value.
func (x *numbers) script(c C, at sides, moves, begins int) Script {
	s := Script{Conf: c}
	for i := range moves {
		who := x.under(c.Threads)
		if x.under(30) == 0 {
			who = c.Threads
		}
		m := stepping(who)
		switch x.under(12) {
		case 0, 1:
			if begins == 0 {
				break
			}
			begins--
			m = putting(who, at.put[x.under(len(at.put))], uint64(i))
			if x.under(2) == 0 {
				m = getting(who, at.get[x.under(len(at.get))], x.under(256))
			}
		case 2:
			m = passing(1 + x.under(9))
		}
		s.Moves = append(s.Moves, m)
	}
	return s
}

// byHand does a script by layer 13's calls alone.
func byHand(t *testing.T, s Script) (*Yard, []api.Errno) {
	t.Helper()
	y := yardOf(t, s.Conf)
	var list []api.Errno
	for _, m := range s.Moves {
		e := api.OK
		switch m.Kind {
		case code.Begin:
			e = y.Call(m.Who, m.Call)
		case code.Step:
			if !y.Step(m.Who) {
				e = api.ErrNone
			}
		default:
			y.Pass(m.N)
		}
		list = append(list, e)
	}
	return y, list
}

// P19.1: of whatever script Run, and Bytes of its bytes, tell what is done by hand, each time anew.
func TestWhateverScript(t *testing.T) {
	x := numbers(1)
	counts := map[api.Errno]int{}
	for range 600 {
		s := x.script(x.conf(), whichever, x.under(300), 300)
		want, answers := byHand(t, s)
		for _, e := range answers {
			counts[e]++
		}
		b, e := code.Encode(s)
		if e != api.OK {
			t.Fatalf("%v: %q", s, e.Word())
		}
		for range 2 {
			y, list, e := play.Run(s)
			answered(t, y, list, e, answers)
			alike(t, y, want)
			y, list, e = play.Bytes(b)
			answered(t, y, list, e, answers)
			alike(t, y, want)
		}
	}
	for _, e := range []api.Errno{api.OK, api.ErrArg, api.ErrBusy, api.ErrNone} {
		if counts[e] < 100 {
			t.Errorf("%q %d times alone", e.Word(), counts[e])
		}
	}
}

// rounds lets all calls come to their ends by layer 13's calls alone: how many steps that takes.
func rounds(y *Yard) int {
	steps := 0
	for who, idle := 0, 0; idle < y.Conf().Threads; who = (who + 1) % y.Conf().Threads {
		if y.Step(who) {
			steps, idle = steps+1, 0
		} else {
			idle++
		}
	}
	return steps
}

// P19.2: behind whatever script Finish lets all calls come to their ends, round by round.
func TestFinishWhatever(t *testing.T) {
	x := numbers(2)
	longest := 0
	for range 600 {
		s := x.script(x.conf(), whichever, x.under(120), 120)
		want, _ := byHand(t, s)
		n := rounds(want)
		longest = max(longest, n)
		y, _, _ := play.Run(s)
		finishes(t, y, n)
		alike(t, y, want)
	}
	if longest < 30 {
		t.Errorf("%d steps at most", longest)
	}
}

// P19.2: many threads that want one and the same thing, and such as put in meanwhile: Finish takes no more than Most.
func TestFinishMany(t *testing.T) {
	for source := lay.Count; source <= lay.Wide; source++ {
		for _, threads := range []int{2, 9, api.MaxThreads} {
			c := C{Threads: threads, Slots: 1, Source: source, Delay: 20}
			y := yardOf(t, c)
			for who := range threads {
				does(t, y, putting(who, word.Right, uint64(who)), api.OK)
			}
			if n := play.Finish(y); n < 4*threads || n > play.Most(y) {
				t.Errorf("%v: %d steps for Puts", c, n)
			}
			for who := range threads {
				does(t, y, getting(who, word.Right, who), api.OK)
			}
			does(t, y, stepping(0), api.OK)
			if n := play.Finish(y); n < threads*(2*threads+5)-1 || n > play.Most(y) {
				t.Errorf("%v: %d steps for Gets", c, n)
			}
			if list := y.Deeds(); len(list) != len(hist.Over(list)) || len(hist.Tally(list)) != 0 {
				t.Errorf("%v: Deeds %v", c, list)
			}
		}
	}
}

// P1, P3: of whatever is played, stopped anywhere, and finished, nothing is done to cells that may not be, and the
// calls may have been done so; each value is had once.
func TestPlayed(t *testing.T) {
	x := numbers(3)
	for range 300 {
		y, _, _ := play.Run(x.script(x.conf(), whichever, x.under(300), 300))
		for range 2 {
			if at := audit.First(y.Conf(), y.Log()); at >= 0 {
				t.Fatalf("%v: the event %d of %v may not be", y.Conf(), at, y.Log())
			}
			list := y.Deeds()
			if !hist.Right(list) {
				t.Fatalf("%v: %v", y.Conf(), list)
			}
			had := map[uint64]int{}
			for _, d := range list {
				if d.Call.Kind == task.Get && d.Reply.OK {
					had[d.Reply.Value]++
				}
			}
			for value, n := range had {
				in := slices.ContainsFunc(list, func(d deed) bool { return d.Call.Kind == task.Put && d.Call.Value == value })
				if n != 1 || !in {
					t.Fatalf("%v: %d was had %d times: %v", y.Conf(), value, n, list)
				}
			}
			play.Finish(y)
		}
	}
}

// P1: of what is played at one end, or from end to end, there is an order, also when it is finished.
func TestPlayedOrder(t *testing.T) {
	x := numbers(4)
	for i := range 400 {
		s := x.script(x.conf(), rows[i%len(rows)], x.under(300), lin.MaxFind)
		y, _, _ := play.Run(s)
		for range 2 {
			if list := y.Deeds(); len(list) > lin.MaxFind {
				t.Fatalf("%d calls", len(list))
			} else if _, ok := lin.Find(list); !ok {
				t.Fatalf("%v: no order of %v", s.Conf, list)
			}
			play.Finish(y)
		}
	}
}
