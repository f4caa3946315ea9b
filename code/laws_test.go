package code_test

import (
	"bytes"
	"slices"
	"testing"

	"stackyard/api"
	"stackyard/code"
	"stackyard/lay"
	"stackyard/task"
	"stackyard/word"
)

// numbers makes numbers by a rule.
type numbers uint64

func (x *numbers) under(n int) int {
	*x = *x*6364136223846793005 + 1442695040888963407
	return int(*x>>33) % n
}

// value is a number of any bits.
func (x *numbers) value() uint64 {
	return uint64(x.under(1<<31))<<33 ^ uint64(x.under(1<<31))<<11 ^ uint64(x.under(1<<11))
}

func (x *numbers) conf() C {
	return C{Threads: 1 + x.under(64), Slots: 1 + x.under(64), Source: lay.Source(x.under(5)), Delay: x.under(101)}
}

// move is whichever can be written.
func (x *numbers) move() Move {
	switch x.under(4) {
	case 0:
		return putting(x.under(64), word.End(x.under(2)), x.value())
	case 1:
		return getting(x.under(64), word.End(x.under(2)), x.under(256))
	case 2:
		return stepping(x.under(64))
	}
	return passing(1 + x.under(65535))
}

func (x *numbers) script(moves int) Script {
	s := Script{Conf: x.conf()}
	for range moves {
		s.Moves = append(s.Moves, x.move())
	}
	return s
}

// told is a move's bytes, by the chapter's words.
func told(m Move) []byte {
	switch {
	case m.Kind == code.Step:
		return []byte{1, byte(m.Who)}
	case m.Kind == code.Pass:
		return []byte{2, byte(m.N % 256), byte(m.N / 256)}
	case m.Call.Kind == task.Get:
		return []byte{0, byte(m.Who), byte(1 + 2*m.Call.End), byte(m.Call.Start)}
	}
	b := []byte{0, byte(m.Who), byte(2 * m.Call.End)}
	for v, n := m.Call.Value, 0; n < 8; v, n = v/256, n+1 {
		b = append(b, byte(v%256))
	}
	return b
}

// P18.2, P18.3: of whatever script there are just these bytes, and of them just that script.
func TestThereAndBack(t *testing.T) {
	x := numbers(1)
	for range 3000 {
		s := x.script(x.under(30))
		b := []byte{byte(s.Conf.Threads), byte(s.Conf.Slots), byte(s.Conf.Source), byte(s.Conf.Delay)}
		for _, m := range s.Moves {
			if !m.Right() {
				t.Fatalf("%+v isn't Right", m)
			}
			b = append(b, told(m)...)
		}
		both(t, s, b...)
	}
}

// whole is how many bytes the move at the beginning of bytes has, by the chapter's words; 0, if there is no whole one that is Right.
func whole(b []byte) int {
	size := 0
	switch {
	case len(b) < 2 || b[0] > 2:
		return 0
	case b[0] == 2:
		size = 3
	case b[1] > 63:
		return 0
	case b[0] == 1:
		size = 2
	case len(b) < 3 || b[2] > 3:
		return 0
	case b[2] == 1 || b[2] == 3:
		size = 4
	default:
		size = 11
	}
	if len(b) < size || b[0] == 2 && b[1] == 0 && b[2] == 0 {
		return 0
	}
	return size
}

// asked is what Decode is to tell of bytes, of few moves, but for the script.
func asked(b []byte) (int, api.Errno) {
	if len(b) < 4 {
		return len(b), api.ErrForm
	}
	if b[0] < 1 || b[0] > 64 || b[1] < 1 || b[1] > 64 || b[2] > 4 || b[3] > 100 {
		return 0, api.ErrArg
	}
	at := 4
	for at < len(b) {
		n := whole(b[at:])
		if n == 0 {
			return at, api.ErrForm
		}
		at += n
	}
	return at, api.OK
}

// bytesOf is whichever bytes, most of which are such as moves begin with.
func (x *numbers) bytesOf(n int) []byte {
	b := make([]byte, n)
	for i := range b {
		b[i] = byte(x.under(256))
		if x.under(8) > 0 {
			b[i] = byte(x.under(4))
		}
	}
	return b
}

// holds holds what Decode tells of bytes against the chapter's words: of a script Encode tells these bytes.
func holds(t *testing.T, b []byte) api.Errno {
	t.Helper()
	at, want := asked(b)
	s, n, e := code.Decode(b)
	if n != at || e != want {
		t.Fatalf("%v: %d, %q, want %d, %q", b, n, e.Word(), at, want.Word())
	}
	if e != api.OK {
		if !same(s, Script{}) {
			t.Fatalf("%v: %v", b, s)
		}
		return e
	}
	if back, e := code.Encode(s); e != api.OK || !bytes.Equal(back, b) {
		t.Fatalf("%v: %v, of which %v, %q", b, s, back, e.Word())
	}
	return e
}

// P18.3: of whatever bytes.
func TestWhateverBytes(t *testing.T) {
	x := numbers(2)
	counts := map[api.Errno]int{}
	for range 200000 {
		counts[holds(t, x.bytesOf(x.under(24)))]++
	}
	for _, e := range []api.Errno{api.OK, api.ErrArg, api.ErrForm} {
		if counts[e] < 1000 {
			t.Errorf("%q %d times alone", e.Word(), counts[e])
		}
	}
}

// P18.3: of a script's bytes of which one was turned, taken out or laid in besides, or that were cut.
func TestTurnedBytes(t *testing.T) {
	x := numbers(3)
	for range 20000 {
		b, e := code.Encode(x.script(1 + x.under(8)))
		if e != api.OK {
			t.Fatal(e)
		}
		at := x.under(len(b))
		switch x.under(4) {
		case 0:
			b[at] = byte(x.under(256))
		case 1:
			b = slices.Delete(b, at, at+1)
		case 2:
			b = slices.Insert(b, at, byte(x.under(6)))
		default:
			b = b[:at]
		}
		holds(t, b)
	}
}

// P18.1: of whatever moves, by the chapter's words asked one by one.
func TestRightWords(t *testing.T) {
	few := []int{-1, 0, 1, 63, 64, 255, 256, 65535, 65536}
	thread := func(x int) bool { return x >= 0 && x <= 63 }
	words := func(m Move) bool {
		c := m.Call
		switch m.Kind {
		case code.Begin:
			if !thread(m.Who) || !c.Right() || m.N != 0 {
				return false
			}
			if c.Kind == task.Put {
				return c.Start == 0
			}
			return c.Value == 0 && c.Start >= 0 && c.Start <= 255
		case code.Step:
			return thread(m.Who) && c.Kind == 0 && c.End == 0 && c.Value == 0 && c.Start == 0 && m.N == 0
		case code.Pass:
			return m.N >= 1 && m.N <= 65535 && m.Who == 0 && c.Kind == 0 && c.End == 0 && c.Value == 0 && c.Start == 0
		}
		return false
	}
	count := 0
	for kind := code.Kind(-1); kind <= 3; kind++ {
		for _, who := range few {
			for _, n := range few {
				for _, start := range few {
					for i := range 4 * 4 * 2 {
						m := Move{Kind: kind, Who: who, N: n, Call: Call{Kind: task.Kind(i%4 - 1), End: word.End(i/4%4 - 1), Value: uint64(i / 16 * 7), Start: start}}
						if m.Right() != words(m) {
							t.Fatalf("%+v: %v", m, m.Right())
						}
						if m.Right() {
							count++
						}
					}
				}
			}
		}
	}
	// 3 threads: 2 ends of 2 values, or of 5 starts; steps; and 6 times
	if want := 3*(2*2+2*5) + 3 + 6; count != want {
		t.Errorf("%d are Right, want %d", count, want)
	}
}
