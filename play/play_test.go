package play_test

import (
	"math"
	"slices"
	"testing"

	"stackyard/api"
	"stackyard/code"
	"stackyard/lay"
	"stackyard/mem"
	"stackyard/play"
	"stackyard/task"
	"stackyard/word"
	"stackyard/yard"
)

type (
	C      = lay.Conf
	Call   = task.Call
	Move   = code.Move
	Script = code.Script
	Yard   = yard.Yard
	deed   = yard.Deed
)

// two has 2 threads with 1 place each, by Count.
var two = C{Threads: 2, Slots: 1}

func putting(who int, end word.End, value uint64) Move {
	return Move{Who: who, Call: Call{End: end, Value: value}}
}

func getting(who int, end word.End, start int) Move {
	return Move{Who: who, Call: Call{Kind: task.Get, End: end, Start: start}}
}

func stepping(who int) Move { return Move{Kind: code.Step, Who: who} }

func passing(n int) Move { return Move{Kind: code.Pass, N: n} }

func yardOf(t *testing.T, c C) *Yard {
	t.Helper()
	y, e := yard.New(c)
	if e != api.OK {
		t.Fatalf("%v: %q", c, e.Word())
	}
	return y
}

// sight is all that can be seen of a yard.
type sight struct {
	now    int
	conf   C
	busy   []bool
	deeds  []deed
	log    []mem.Event
	words  []uint64
	values []uint64
}

func look(y *Yard) sight {
	s := sight{now: y.Now(), conf: y.Conf(), deeds: y.Deeds(), log: y.Log(), words: y.Words(), values: y.Values()}
	for who := range s.conf.Threads {
		s.busy = append(s.busy, y.Busy(who))
	}
	return s
}

func (s sight) same(o sight) bool {
	return s.now == o.now && s.conf == o.conf && slices.Equal(s.busy, o.busy) && slices.Equal(s.deeds, o.deeds) &&
		slices.Equal(s.log, o.log) && slices.Equal(s.words, o.words) && slices.Equal(s.values, o.values)
}

// alike holds that two yards can't be told from each other.
func alike(t *testing.T, y, want *Yard) {
	t.Helper()
	if a, b := look(y), look(want); !a.same(b) {
		t.Errorf("to be seen is %v\nwant          %v", a, b)
	}
}

// does holds how a move is answered.
func does(t *testing.T, y *Yard, m Move, want api.Errno) {
	t.Helper()
	if e := play.Do(y, m); e != want {
		t.Errorf("%+v: %q, want %q", m, e.Word(), want.Word())
	}
}

// P19.1: Do: each move is what layer 13 does.
func TestDo(t *testing.T) {
	c := C{Threads: 2, Slots: 1, Source: lay.Wide, Delay: 2}
	y, bare := yardOf(t, c), yardOf(t, c)
	does(t, y, passing(7), api.OK)
	bare.Pass(7)
	alike(t, y, bare)
	does(t, y, putting(1, word.Right, 9), api.OK)
	bare.Call(1, Call{End: word.Right, Value: 9})
	alike(t, y, bare)
	for range 3 {
		does(t, y, stepping(1), api.OK)
		bare.Step(1)
	}
	alike(t, y, bare)
	does(t, y, getting(0, word.Left, 1), api.OK)
	bare.Call(0, Call{Kind: task.Get, Start: 1})
	does(t, y, passing(65535), api.OK)
	bare.Pass(65535)
	does(t, y, stepping(0), api.OK)
	bare.Step(0)
	alike(t, y, bare)
}

// P19.1: Do: Begin's errors are layer 13's, and it asks what is begun, not whether the move can be written.
func TestDoBegin(t *testing.T) {
	y, bare := yardOf(t, two), yardOf(t, two)
	for _, m := range []Move{
		putting(-1, word.Left, 7), putting(2, word.Left, 7), putting(64, word.Left, 7), putting(math.MinInt, word.Left, 7), putting(math.MaxInt, word.Left, 7),
		putting(0, 2, 7), getting(0, -1, 0), {Call: Call{Kind: 2}}, {Call: Call{Kind: -1}}, {Who: 2, Call: Call{Kind: 2}},
	} {
		does(t, y, m, api.ErrArg)
		alike(t, y, bare)
	}
	odd := Move{Who: 1, N: -3, Call: Call{Kind: task.Get, End: word.Right, Value: 5, Start: -1000}}
	does(t, y, odd, api.OK)
	bare.Call(1, odd.Call)
	alike(t, y, bare)
	does(t, y, odd, api.ErrBusy)
	does(t, y, putting(1, word.Left, 7), api.ErrBusy)
	does(t, y, putting(1, 2, 7), api.ErrArg)
	alike(t, y, bare)
	odd = Move{N: 70000, Call: Call{Value: math.MaxUint64, Start: math.MaxInt}}
	does(t, y, odd, api.OK)
	bare.Call(0, odd.Call)
	alike(t, y, bare)
}

// P19.1: Do: Step: ErrNone, if the thread isn't there, or has no call; who steps is asked alone.
func TestDoStep(t *testing.T) {
	y, bare := yardOf(t, two), yardOf(t, two)
	for _, who := range []int{0, 1, -1, 2, 64, math.MinInt, math.MaxInt} {
		does(t, y, stepping(who), api.ErrNone)
	}
	alike(t, y, bare)
	does(t, y, putting(1, word.Left, 7), api.OK)
	bare.Call(1, Call{Value: 7})
	does(t, y, stepping(0), api.ErrNone)
	alike(t, y, bare)
	for range 4 {
		does(t, y, Move{Kind: code.Step, Who: 1, N: 9, Call: Call{Kind: 3}}, api.OK)
		bare.Step(1)
		alike(t, y, bare)
	}
	does(t, y, stepping(1), api.ErrNone)
	alike(t, y, bare)
}

// P19.1: Do: Pass is always OK, and N alone is asked.
func TestDoPass(t *testing.T) {
	y, bare := yardOf(t, two), yardOf(t, two)
	for _, n := range []int{1, 0, -1, 65535, 65536, math.MinInt, 1 << 39, math.MaxInt, 1} {
		does(t, y, Move{Kind: code.Pass, Who: 9, Call: Call{Kind: 3}, N: n}, api.OK)
		bare.Pass(n)
		alike(t, y, bare)
	}
}

// P19.1: Do: another Kind: ErrArg, and nothing.
func TestDoKind(t *testing.T) {
	y, bare := yardOf(t, two), yardOf(t, two)
	does(t, y, putting(1, word.Left, 7), api.OK)
	bare.Call(1, Call{Value: 7})
	for _, k := range []code.Kind{-1, 3, 4, 255, 256, 257, 258, math.MinInt, math.MaxInt} {
		for who := range 3 {
			does(t, y, Move{Kind: k, Who: who, Call: Call{Value: 7}, N: 5}, api.ErrArg)
			alike(t, y, bare)
		}
	}
}

// mixed is a script in which moves are answered in each way.
var mixed = Script{Conf: two, Moves: []Move{
	stepping(0), putting(0, word.Right, 7), putting(0, word.Right, 8), stepping(0), passing(5), putting(2, word.Left, 9), stepping(2),
	stepping(0), stepping(0), stepping(0), stepping(0), getting(1, word.Right, 255), stepping(1),
}}

// mixedAnswers is how these are answered.
var mixedAnswers = []api.Errno{
	api.ErrNone, api.OK, api.ErrBusy, api.OK, api.OK, api.ErrArg, api.ErrNone,
	api.OK, api.OK, api.OK, api.ErrNone, api.OK, api.OK,
}

// answered holds what is answered by a script that is done.
func answered(t *testing.T, y *Yard, list []api.Errno, e api.Errno, want []api.Errno) {
	t.Helper()
	if e != api.OK || y == nil || !slices.Equal(list, want) {
		t.Fatalf("%v, %q, want %v", list, e.Word(), want)
	}
}

// refused holds that there is an error, and nothing else.
func refused(t *testing.T, y *Yard, list []api.Errno, e, want api.Errno) {
	t.Helper()
	if y != nil || len(list) != 0 || e != want {
		t.Errorf("%v, %v, %q, want %q", y, list, e.Word(), want.Word())
	}
}

// P19.1: Run, and Bytes of its bytes: the yard, and the answers.
func TestRun(t *testing.T) {
	bare := yardOf(t, two)
	for _, m := range mixed.Moves {
		play.Do(bare, m)
	}
	was := slices.Clone(mixed.Moves)
	y, list, e := play.Run(mixed)
	answered(t, y, list, e, mixedAnswers)
	alike(t, y, bare)
	if !slices.Equal(mixed.Moves, was) {
		t.Errorf("the moves are %v, were %v", mixed.Moves, was)
	}
	b, e := code.Encode(mixed)
	if e != api.OK {
		t.Fatalf("Encode: %q", e.Word())
	}
	kept := slices.Clone(b)
	y, list, e = play.Bytes(b)
	answered(t, y, list, e, mixedAnswers)
	alike(t, y, bare)
	if !slices.Equal(b, kept) {
		t.Errorf("the bytes are %v, were %v", b, kept)
	}
	if d := y.Deeds(); y.Now() != 10 || len(d) != 2 || d[0].To != 4 || !d[0].Reply.OK || d[1].From != 5 || d[1].To >= 0 {
		t.Errorf("the time is %d, Deeds %v", y.Now(), d)
	}
}

// P19.1: Run, and Bytes, of no moves: a new yard.
func TestRunNone(t *testing.T) {
	for source := lay.Count; source <= lay.Wide; source++ {
		c := C{Threads: 64, Slots: 64, Source: source, Delay: 100}
		for _, moves := range [][]Move{nil, {}} {
			y, list, e := play.Run(Script{Conf: c, Moves: moves})
			answered(t, y, list, e, nil)
			alike(t, y, yardOf(t, c))
		}
		y, list, e := play.Bytes([]byte{64, 64, byte(source), 100})
		answered(t, y, list, e, nil)
		alike(t, y, yardOf(t, c))
	}
}

// P19.1: Run: of a Conf that isn't Right ErrArg, whatever the moves.
func TestRunConf(t *testing.T) {
	for _, c := range []C{
		{}, {Threads: 1}, {Slots: 1}, {Threads: -1, Slots: 1}, {Threads: 65, Slots: 1}, {Threads: 1, Slots: 65}, {Threads: 257, Slots: 257},
		{Threads: 1, Slots: 1, Source: 5}, {Threads: 1, Slots: 1, Source: -1}, {Threads: 1, Slots: 1, Delay: 101}, {Threads: 1, Slots: 1, Delay: -1},
	} {
		for _, moves := range [][]Move{nil, {stepping(0)}, {{Kind: 9}}} {
			y, list, e := play.Run(Script{Conf: c, Moves: moves})
			refused(t, y, list, e, api.ErrArg)
		}
	}
}

// P19.1: Run does what can't be written, too: moves that aren't Right, and more than MaxMoves.
func TestRunOdd(t *testing.T) {
	s := Script{Conf: two, Moves: []Move{
		{Kind: 9}, getting(0, word.Left, 1000), {Kind: code.Step, N: 3}, putting(99, word.Left, 1), stepping(-5), {Kind: code.Pass, N: -1}, passing(70000), {Kind: -1},
	}}
	y, list, e := play.Run(s)
	answered(t, y, list, e, []api.Errno{api.ErrArg, api.OK, api.OK, api.ErrArg, api.ErrNone, api.OK, api.OK, api.ErrArg})
	if y.Now() != 70001 || !y.Busy(0) || len(y.Log()) != 1 {
		t.Errorf("the time is %d, Log %v", y.Now(), y.Log())
	}
	many := slices.Repeat([]Move{passing(1)}, api.MaxMoves+1)
	y, list, e = play.Run(Script{Conf: two, Moves: many})
	answered(t, y, list, e, make([]api.Errno, api.MaxMoves+1))
	if y.Now() != api.MaxMoves+1 {
		t.Errorf("the time is %d", y.Now())
	}
}

// P19.1: Bytes: what is no script's has layer 18's error.
func TestBytesWrong(t *testing.T) {
	head := []byte{2, 1, 0, 0}
	behind := func(b ...byte) []byte { return slices.Concat(head, b) }
	full := slices.Concat(head, slices.Repeat([]byte{1, 0}, api.MaxMoves))
	for _, x := range []struct {
		b []byte
		e api.Errno
	}{
		{nil, api.ErrForm}, {[]byte{2, 1, 0}, api.ErrForm}, {[]byte{0, 0, 0}, api.ErrForm},
		{[]byte{0, 0, 0, 0}, api.ErrArg}, {[]byte{65, 1, 0, 0}, api.ErrArg}, {[]byte{1, 1, 5, 0, 9}, api.ErrArg},
		{behind(3), api.ErrForm}, {behind(1), api.ErrForm}, {behind(1, 64), api.ErrForm}, {behind(1, 0, 2, 0, 0), api.ErrForm},
		{slices.Concat(full, []byte{1, 0}), api.ErrMany}, {slices.Concat(full, []byte{1, 0, 3}), api.ErrMany}, {slices.Concat(full, []byte{3}), api.ErrForm},
	} {
		y, list, e := play.Bytes(x.b)
		refused(t, y, list, e, x.e)
	}
}

// P19.1: Bytes: a thread that may be written needn't be there: that move is answered ErrArg, or ErrNone.
func TestBytesWho(t *testing.T) {
	y, list, e := play.Bytes([]byte{2, 1, 0, 0, 1, 63, 0, 2, 1, 0, 0, 1, 1, 0, 1, 1})
	answered(t, y, list, e, []api.Errno{api.ErrNone, api.ErrArg, api.OK, api.OK})
}

// finishes holds how many steps Finish takes, behind which no thread has a call and nothing is left to do.
func finishes(t *testing.T, y *Yard, want int) {
	t.Helper()
	now, moves, most := y.Now(), len(y.Deeds()), play.Most(y)
	if n := play.Finish(y); n != want || n > most || y.Now() != now+n || len(y.Deeds()) != moves {
		t.Errorf("%v: Finish took %d steps, want %d, at most %d; the time was %d and is %d", y.Conf(), n, want, most, now, y.Now())
	}
	for who := range y.Conf().Threads {
		if y.Busy(who) {
			t.Errorf("%v: thread %d has a call", y.Conf(), who)
		}
	}
	was := look(y)
	if n := play.Finish(y); n != 0 || !look(y).same(was) {
		t.Errorf("%v: Finish took %d steps more", y.Conf(), n)
	}
}

// P19.2: the chapter's example.
func TestExample(t *testing.T) {
	y := yardOf(t, two)
	does(t, y, putting(0, word.Left, 7), api.OK)
	finishes(t, y, 4)
	if d := y.Deeds(); !d[0].Reply.OK || d[0].To != 4 {
		t.Error(d)
	}
}

// P19.2: Finish: nothing, where no thread has a call.
func TestFinishNone(t *testing.T) {
	for _, c := range []C{{Threads: 1, Slots: 1}, two, {Threads: 64, Slots: 64, Source: lay.Wide, Delay: 100}} {
		y := yardOf(t, c)
		finishes(t, y, 0)
		alike(t, y, yardOf(t, c))
	}
	var none Yard // it has no threads
	if play.Finish(&none) != 0 || play.Most(&none) != 0 {
		t.Error("of no threads")
	}
}

// P19.2: Finish: round by round, one step of each thread, in order, as long as one has a call.
func TestFinishRounds(t *testing.T) {
	y := yardOf(t, C{Threads: 4, Slots: 1})
	does(t, y, getting(3, word.Left, 0), api.OK)
	does(t, y, putting(1, word.Right, 7), api.OK)
	does(t, y, putting(2, word.Right, 8), api.OK)
	does(t, y, stepping(2), api.OK)
	// the Get reads the places 0 to 3: 8 is in ahead of its third step, 7 only behind its second one; so it is three
	// passes, and the five steps of a take
	finishes(t, y, 4+3+3*4+5)
	var who []int
	for _, e := range y.Log() {
		who = append(who, e.Who)
	}
	want := slices.Concat([]int{2}, []int{1, 2, 3}, []int{1, 2, 3}, []int{1, 2, 3}, []int{1, 3}, slices.Repeat([]int{3}, 13))
	if !slices.Equal(who, want) {
		t.Errorf("the steps are of %v, want %v", who, want)
	}
	if d := y.Deeds(); d[0].Reply.Value != 8 || d[0].To != 2+len(want) {
		t.Errorf("Deeds %v", d)
	}
}

// P19.2: Most: Threads times layer 16's Window, by numbers that were worked out by hand; what is done turns it not.
func TestMost(t *testing.T) {
	for _, x := range []struct {
		c    C
		put  int // how many steps its first Put takes
		want int
	}{
		{C{Threads: 1, Slots: 1}, 4, 29}, {C{Threads: 1, Slots: 1, Source: lay.Wide, Delay: 100}, 105, 107}, {C{Threads: 2, Slots: 3}, 4, 410},
		{C{Threads: 3, Slots: 2, Source: lay.Stutter}, 7, 1227}, {C{Threads: 64, Slots: 64}, 4, 64 * 68199041},
	} {
		y := yardOf(t, x.c)
		if n := play.Most(y); n != x.want {
			t.Errorf("%v: %d, want %d", x.c, n, x.want)
		}
		does(t, y, putting(0, word.Left, 7), api.OK)
		was := look(y)
		if n := play.Most(y); n != x.want || !look(y).same(was) {
			t.Errorf("%v: %d, want %d", x.c, n, x.want)
		}
		finishes(t, y, x.put)
		if n := play.Most(y); n != x.want {
			t.Errorf("%v: %d, want %d", x.c, n, x.want)
		}
	}
}
