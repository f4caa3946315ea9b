package code_test

import (
	"bytes"
	"math"
	"slices"
	"testing"

	"stackyard/api"
	"stackyard/code"
	"stackyard/lay"
	"stackyard/task"
	"stackyard/word"
)

type (
	C      = lay.Conf
	Call   = task.Call
	Move   = code.Move
	Script = code.Script
)

const top = math.MaxUint64

// two has 2 threads with 3 places each, by Count.
var two = C{Threads: 2, Slots: 3}

func putting(who int, end word.End, value uint64) Move {
	return Move{Kind: code.Begin, Who: who, Call: Call{Kind: task.Put, End: end, Value: value}}
}

func getting(who int, end word.End, start int) Move {
	return Move{Kind: code.Begin, Who: who, Call: Call{Kind: task.Get, End: end, Start: start}}
}

func stepping(who int) Move { return Move{Kind: code.Step, Who: who} }

func passing(n int) Move { return Move{Kind: code.Pass, N: n} }

// same tells whether two scripts are one.
func same(a, b Script) bool { return a.Conf == b.Conf && slices.Equal(a.Moves, b.Moves) }

// encodes holds a script's bytes, which changes nothing.
func encodes(t *testing.T, s Script, want []byte) {
	t.Helper()
	was := Script{Conf: s.Conf, Moves: slices.Clone(s.Moves)}
	if b, e := code.Encode(s); e != api.OK || !bytes.Equal(b, want) {
		t.Errorf("%v: %v, %q, want %v", s, b, e.Word(), want)
	}
	if !same(s, was) {
		t.Errorf("the script is %v, was %v", s, was)
	}
}

// decodes holds the script of which bytes are these, which changes nothing.
func decodes(t *testing.T, b []byte, want Script) {
	t.Helper()
	was := slices.Clone(b)
	if s, n, e := code.Decode(b); e != api.OK || n != len(b) || !same(s, want) {
		t.Errorf("%v: %v, %d, %q, want %v", b, s, n, e.Word(), want)
	}
	if !bytes.Equal(b, was) {
		t.Errorf("the bytes are %v, were %v", b, was)
	}
}

// both holds a script's bytes, there and back.
func both(t *testing.T, s Script, b ...byte) {
	t.Helper()
	encodes(t, s, b)
	decodes(t, b, s)
}

// notEncoded holds that a script has no bytes.
func notEncoded(t *testing.T, s Script, want api.Errno) {
	t.Helper()
	if b, e := code.Encode(s); e != want || len(b) != 0 {
		t.Errorf("%v, %d moves: %v, %q, want %q", s.Conf, len(s.Moves), b, e.Word(), want.Word())
	}
}

// notDecoded holds that bytes are no script's, and at which byte.
func notDecoded(t *testing.T, at int, want api.Errno, b ...byte) {
	t.Helper()
	if s, n, e := code.Decode(b); e != want || n != at || !same(s, Script{}) {
		t.Errorf("%v: %v, %d, %q, want %d, %q", b, s, n, e.Word(), at, want.Word())
	}
}

// P18.2, P18.3: the chapter's example.
func TestExample(t *testing.T) {
	both(t, Script{Conf: two, Moves: []Move{stepping(1)}}, 2, 3, 0, 0, 1, 1)
}

// P18.1: the kinds are numbered in order.
func TestKinds(t *testing.T) {
	if code.Begin != 0 || code.Step != 1 || code.Pass != 2 {
		t.Error(code.Begin, code.Step, code.Pass)
	}
}

// right holds whether moves are Right, and that just those that are can be written.
func right(t *testing.T, want bool, moves ...Move) {
	t.Helper()
	for _, m := range moves {
		if m.Right() != want {
			t.Errorf("%+v: %v", m, m.Right())
		}
		if !want {
			notEncoded(t, Script{Conf: two, Moves: []Move{m}}, api.ErrArg)
			notEncoded(t, Script{Conf: two, Moves: []Move{stepping(0), m, passing(1)}}, api.ErrArg)
		} else if b, e := code.Encode(Script{Conf: two, Moves: []Move{m}}); e != api.OK || len(b) < 6 {
			t.Errorf("%+v: %v, %q", m, b, e.Word())
		}
	}
}

// P18.1: Begin of a Put.
func TestRightPut(t *testing.T) {
	right(t, true, Move{}, putting(0, word.Left, 0), putting(63, word.Right, top), putting(1, word.Left, 1<<63), putting(62, word.Right, 7))
	right(t, false, putting(-1, word.Left, 7), putting(64, word.Left, 7), putting(math.MinInt, word.Left, 7), putting(math.MaxInt, word.Left, 7),
		putting(256, word.Left, 7), putting(0, -1, 7), putting(0, 2, 7), putting(0, 128, 7), putting(0, math.MaxInt, 7))
	for _, x := range []int{1, -1, 255, 256, 65536, math.MinInt, math.MaxInt} {
		m := putting(1, word.Right, 7)
		m.N = x
		right(t, false, m)
		m.N, m.Call.Start = 0, x
		right(t, false, m)
		m.N = x
		right(t, false, m)
	}
}

// P18.1: Begin of a Get.
func TestRightGet(t *testing.T) {
	right(t, true, getting(0, word.Left, 0), getting(63, word.Right, 255), getting(5, word.Right, 1), getting(5, word.Left, 254))
	right(t, false, getting(-1, word.Left, 7), getting(64, word.Left, 7), getting(math.MaxInt, word.Left, 7), getting(0, -1, 7), getting(0, 2, 7),
		getting(0, math.MinInt, 7), getting(0, word.Left, -1), getting(0, word.Left, 256), getting(0, word.Left, math.MinInt), getting(0, word.Left, math.MaxInt))
	for _, x := range []uint64{1, 255, 256, 1 << 63, top} {
		m := getting(1, word.Right, 7)
		m.Call.Value = x
		right(t, false, m)
	}
	for _, x := range []int{1, -1, 256, math.MinInt, math.MaxInt} {
		m := getting(1, word.Right, 7)
		m.N = x
		right(t, false, m)
	}
}

// notZero are Calls of which one part alone isn't zero.
var notZero = []Call{
	{Kind: task.Get}, {Kind: 2}, {Kind: -1}, {End: word.Right}, {End: -1}, {Value: 1}, {Value: top}, {Start: 1}, {Start: -1}, {Start: 256},
}

// P18.1: Step: Who alone.
func TestRightStep(t *testing.T) {
	right(t, true, stepping(0), stepping(1), stepping(62), stepping(63))
	right(t, false, stepping(-1), stepping(64), stepping(256), stepping(math.MinInt), stepping(math.MaxInt))
	for _, n := range []int{1, -1, 256, math.MinInt} {
		right(t, false, Move{Kind: code.Step, Who: 1, N: n})
	}
	for _, c := range notZero {
		right(t, false, Move{Kind: code.Step, Who: 1, Call: c}, Move{Kind: code.Step, Call: c})
	}
}

// P18.1: Pass: N alone.
func TestRightPass(t *testing.T) {
	right(t, true, passing(1), passing(255), passing(256), passing(65534), passing(65535))
	right(t, false, passing(0), passing(-1), passing(65536), passing(65537), passing(1<<32+1), passing(math.MinInt), passing(math.MaxInt))
	for _, who := range []int{1, -1, 63, 64, 256, math.MinInt} {
		right(t, false, Move{Kind: code.Pass, N: 1, Who: who})
	}
	for _, c := range notZero {
		right(t, false, Move{Kind: code.Pass, N: 1, Call: c})
	}
}

// P18.1: no other Kind.
func TestRightKind(t *testing.T) {
	for _, k := range []code.Kind{-1, 3, 4, 255, 256, 257, 258, math.MinInt, math.MaxInt} {
		right(t, false, Move{Kind: k}, Move{Kind: k, Who: 1}, Move{Kind: k, N: 1}, Move{Kind: k, Who: 1, Call: Call{Value: 7}})
	}
}

// P18.2, P18.3: a script without moves; Confs to their edges.
func TestConf(t *testing.T) {
	for source := lay.Count; source <= lay.Wide; source++ {
		for _, n := range []int{1, 2, 63, 64} {
			for _, delay := range []int{0, 1, 99, 100} {
				c := C{Threads: n, Slots: 65 - n, Source: source, Delay: delay}
				both(t, Script{Conf: c}, byte(n), byte(65-n), byte(source), byte(delay))
			}
		}
	}
	both(t, Script{Conf: two, Moves: []Move{}}, 2, 3, 0, 0)
}

// P18.2, P18.3: each move's bytes; which threads the Conf has is not asked.
func TestMoves(t *testing.T) {
	for _, x := range []struct {
		m Move
		b []byte
	}{
		{putting(0, word.Left, 0), []byte{0, 0, 0, 0, 0, 0, 0, 0, 0, 0, 0}},
		{putting(63, word.Right, top), []byte{0, 63, 2, 255, 255, 255, 255, 255, 255, 255, 255}},
		{putting(1, word.Left, 0x0102030405060708), []byte{0, 1, 0, 8, 7, 6, 5, 4, 3, 2, 1}},
		{putting(9, word.Right, 1<<63|0xfe), []byte{0, 9, 2, 0xfe, 0, 0, 0, 0, 0, 0, 0x80}},
		{getting(0, word.Left, 0), []byte{0, 0, 1, 0}},
		{getting(63, word.Right, 255), []byte{0, 63, 3, 255}},
		{getting(2, word.Left, 9), []byte{0, 2, 1, 9}},
		{stepping(0), []byte{1, 0}},
		{stepping(63), []byte{1, 63}},
		{passing(1), []byte{2, 1, 0}},
		{passing(255), []byte{2, 255, 0}},
		{passing(256), []byte{2, 0, 1}},
		{passing(0x1234), []byte{2, 0x34, 0x12}},
		{passing(65535), []byte{2, 255, 255}},
	} {
		head := []byte{2, 3, 0, 0}
		both(t, Script{Conf: two, Moves: []Move{x.m}}, slices.Concat(head, x.b)...)
		both(t, Script{Conf: two, Moves: []Move{x.m, passing(2), x.m}}, slices.Concat(head, x.b, []byte{2, 2, 0}, x.b)...)
	}
}

// wrongConfs are some that aren't Right; those of bytes as bytes, too.
var wrongConfs = []C{
	{}, {Threads: 1}, {Slots: 1}, {Threads: 65, Slots: 1}, {Threads: 1, Slots: 65}, {Threads: 255, Slots: 255},
	{Threads: 1, Slots: 1, Source: 5}, {Threads: 1, Slots: 1, Source: 255}, {Threads: 1, Slots: 1, Delay: 101}, {Threads: 1, Slots: 1, Delay: 255},
}

// P18.2: Encode: ErrArg, if the Conf isn't Right, ahead of all else.
func TestEncodeConf(t *testing.T) {
	wrong := append(slices.Clone(wrongConfs), C{Threads: -1, Slots: 1}, C{Threads: 1, Slots: -1}, C{Threads: 257, Slots: 1}, C{Threads: 1, Slots: 257},
		C{Threads: 1, Slots: 1, Source: -1}, C{Threads: 1, Slots: 1, Source: 256}, C{Threads: 1, Slots: 1, Delay: -1}, C{Threads: 1, Slots: 1, Delay: 256},
		C{Threads: math.MinInt, Slots: math.MaxInt})
	many := make([]Move, api.MaxMoves+1)
	for _, c := range wrong {
		notEncoded(t, Script{Conf: c}, api.ErrArg)
		notEncoded(t, Script{Conf: c, Moves: []Move{stepping(0)}}, api.ErrArg)
		notEncoded(t, Script{Conf: c, Moves: many}, api.ErrArg)
	}
}

// P18.2: Encode: ErrMany of more than MaxMoves, also where one isn't Right; of MaxMoves none is too many.
func TestEncodeMany(t *testing.T) {
	moves := slices.Repeat([]Move{stepping(1)}, api.MaxMoves+1)
	notEncoded(t, Script{Conf: two, Moves: moves}, api.ErrMany)
	encodes(t, Script{Conf: two, Moves: moves[1:]}, append([]byte{2, 3, 0, 0}, bytes.Repeat([]byte{1, 1}, api.MaxMoves)...))
	for _, i := range []int{0, api.MaxMoves - 1, api.MaxMoves} {
		wrong := slices.Clone(moves)
		wrong[i] = stepping(64)
		notEncoded(t, Script{Conf: two, Moves: wrong}, api.ErrMany)
		if i > 0 {
			notEncoded(t, Script{Conf: two, Moves: wrong[1:]}, api.ErrArg)
		}
	}
}

// P18.3: ErrForm at the end of fewer than 4 bytes, whatever they are.
func TestDecodeShort(t *testing.T) {
	for _, b := range [][]byte{nil, {}, {1}, {0}, {255}, {2, 3}, {0, 0}, {65, 1}, {2, 3, 0}, {0, 0, 0}, {1, 1, 9}, {255, 255, 255}} {
		notDecoded(t, len(b), api.ErrForm, b...)
	}
}

// P18.3: ErrArg at 0, if the Conf isn't Right, whatever is behind it.
func TestDecodeConf(t *testing.T) {
	many := bytes.Repeat([]byte{1, 0}, api.MaxMoves+1)
	for _, c := range wrongConfs {
		head := []byte{byte(c.Threads), byte(c.Slots), byte(c.Source), byte(c.Delay)}
		for _, b := range [][]byte{nil, {1, 0}, {9}, {1}, {2, 0, 0}, many} {
			notDecoded(t, 0, api.ErrArg, slices.Concat(head, b)...)
		}
	}
}

// P18.3: ErrForm at the first byte of a move that isn't Right, whatever is behind it, or that isn't whole.
func TestDecodeForm(t *testing.T) {
	wrong := [][]byte{
		{3}, {3, 0}, {4, 0, 0, 0}, {255}, {128, 1, 1}, {10},
		{1, 64}, {1, 65}, {1, 255}, {1, 128},
		{2, 0, 0},
		{0, 64, 1, 0}, {0, 255, 3, 7}, {0, 64, 0, 1, 2, 3, 4, 5, 6, 7, 8}, {0, 255, 2, 1, 2, 3, 4, 5, 6, 7, 8},
		{0, 0, 4, 1, 2, 3, 4, 5, 6, 7, 8}, {0, 0, 5, 9}, {0, 0, 255, 9}, {0, 0, 254, 1, 2, 3, 4, 5, 6, 7, 8}, {0, 0, 128, 1, 2, 3, 4, 5, 6, 7, 8}, {0, 0, 6}, {0, 0, 7},
	}
	short := [][]byte{
		{1}, {2}, {2, 1}, {2, 0},
		{0}, {0, 0}, {0, 0, 0}, {0, 0, 0, 1, 2, 3, 4, 5, 6, 7}, {0, 63, 2, 1}, {0, 0, 1}, {0, 63, 3},
	}
	for _, ahead := range [][]byte{nil, {1, 63}, {2, 1, 0, 1, 0}, {0, 5, 2, 1, 2, 3, 4, 5, 6, 7, 8}, {0, 5, 1, 200}} {
		head := slices.Concat([]byte{2, 3, 0, 0}, ahead)
		for _, x := range wrong {
			notDecoded(t, len(head), api.ErrForm, slices.Concat(head, x)...)
			notDecoded(t, len(head), api.ErrForm, slices.Concat(head, x, []byte{1, 0})...)
			notDecoded(t, len(head), api.ErrForm, slices.Concat(head, x, []byte{3, 3, 3})...)
		}
		for _, x := range short {
			notDecoded(t, len(head), api.ErrForm, slices.Concat(head, x)...)
		}
	}
}

// P18.3: of a script that is cut off anywhere ErrForm at the first byte of the move that was cut.
func TestDecodeCut(t *testing.T) {
	moves := [][]byte{{0, 5, 2, 1, 2, 3, 4, 5, 6, 7, 8}, {1, 63}, {2, 0, 1}, {0, 1, 3, 255}, {1, 0}}
	b := []byte{64, 64, 4, 100}
	for _, m := range moves {
		first := len(b)
		for n := 1; n < len(m); n++ {
			notDecoded(t, first, api.ErrForm, slices.Concat(b, m[:n])...)
		}
		b = slices.Concat(b, m)
		if _, n, e := code.Decode(b); e != api.OK || n != len(b) {
			t.Errorf("%v: %d, %q", b, n, e.Word())
		}
	}
}

// P18.3: ErrMany at the first byte of a move behind MaxMoves others; where what is behind them is no move ErrForm.
func TestDecodeMany(t *testing.T) {
	b := append([]byte{2, 3, 0, 0}, bytes.Repeat([]byte{1, 1}, api.MaxMoves)...)
	decodes(t, b, Script{Conf: two, Moves: slices.Repeat([]Move{stepping(1)}, api.MaxMoves)})
	for _, x := range [][]byte{{1, 0}, {2, 1, 0}, {0, 5, 1, 200}, {0, 5, 2, 1, 2, 3, 4, 5, 6, 7, 8}, {1, 0, 9}, {1, 0, 1}, {1, 0, 1, 0}} {
		if s, n, e := code.Decode(slices.Concat(b, x)); e != api.ErrMany || n != len(b) || !same(s, Script{}) {
			t.Errorf("%v: %d, %q", x, n, e.Word())
		}
	}
	for _, x := range [][]byte{{3}, {1}, {1, 64}, {2, 0, 0}, {0, 5, 1}, {9, 1, 0}} {
		if s, n, e := code.Decode(slices.Concat(b, x)); e != api.ErrForm || n != len(b) || !same(s, Script{}) {
			t.Errorf("%v: %d, %q", x, n, e.Word())
		}
	}
	wrong := slices.Concat(b, []byte{1, 0})
	wrong[4+2*100+1] = 64
	if s, n, e := code.Decode(wrong); e != api.ErrForm || n != 4+2*100 || !same(s, Script{}) {
		t.Errorf("%d, %q", n, e.Word())
	}
}

// Rule 3: what is handed in isn't kept, and an answer is new memory.
func TestNewMemory(t *testing.T) {
	s := Script{Conf: two, Moves: []Move{putting(1, word.Right, 7), stepping(1), getting(0, word.Left, 3)}}
	want := []byte{2, 3, 0, 0, 0, 1, 2, 7, 0, 0, 0, 0, 0, 0, 0, 1, 1, 0, 0, 1, 3}
	a, _ := code.Encode(s)
	b, _ := code.Encode(s)
	clear(a)
	if !bytes.Equal(b, want) {
		t.Error(b)
	}
	x, _, _ := code.Decode(b)
	y, _, _ := code.Decode(b)
	clear(b)
	clear(x.Moves)
	if !same(y, s) {
		t.Error(y)
	}
	_ = append(y.Moves, stepping(0))
	encodes(t, s, want)
	decodes(t, want, s)
}
