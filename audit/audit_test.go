package audit_test

import (
	"math"
	"slices"
	"testing"

	"stackyard/audit"
	"stackyard/lay"
	"stackyard/mem"
	"stackyard/stamp"
	"stackyard/word"
)

type (
	C     = lay.Conf
	Event = mem.Event
	S     = stamp.Stamp
	W     = word.Word
)

const (
	least = math.MinInt
	great = math.MaxInt
	top   = math.MaxUint64
)

// two has 2 threads with 3 places each: the places 0, 1, 2 are the first one's, 3, 4, 5 the second one's.
var two = C{Threads: 2, Slots: 3}

// load is a Load of a cell that is x.
func load(who, cell int, x uint64) Event {
	return Event{Who: who, Cell: cell, Old: x, New: x, OK: true}
}

// store is a Store to a cell that is old.
func store(who, cell int, old, next uint64) Event {
	return Event{Who: who, Op: mem.Store, Cell: cell, Old: old, New: next, OK: true}
}

// swap is a Swap that is OK.
func swap(who, cell int, old, next uint64) Event {
	return Event{Who: who, Op: mem.Swap, Cell: cell, Old: old, New: next, OK: true}
}

// lost is a Swap that isn't OK, of a cell that is x.
func lost(who, cell int, x uint64) Event {
	return Event{Who: who, Op: mem.Swap, Cell: cell, Old: x, New: x}
}

// add is an Add to a cell that is old.
func add(who, cell int, old, n uint64) Event {
	return Event{Who: who, Op: mem.Add, Cell: cell, Old: old, New: old + n, OK: true}
}

// live is a Word behind so many uses of its place.
func live(gen int) W { return W{State: word.Live, Gen: gen, Stamp: S{Lo: 5, Hi: 8}} }

// used is what is done to the Word of a place that is Free, by its thread, until it is Gone behind so many uses.
func used(c C, slot, gens int) []Event {
	var log []Event
	was := uint64(0)
	for gen := 1; gen <= gens; gen++ {
		in, out := live(gen).Pack(), live(gen).Taken().Pack()
		log = append(log, store(c.Owner(slot), slot, was, in), swap(c.Owner(slot), slot, in, out))
		was = out
	}
	return log
}

// first holds what First tells of events, which is changed by nothing.
func first(t *testing.T, c C, want int, log ...Event) {
	t.Helper()
	was := slices.Clone(log)
	if got := audit.First(c, log); got != want {
		t.Errorf("%v: of %v the first one is %d, want %d", c, log, got, want)
	}
	if !slices.Equal(log, was) {
		t.Errorf("the list is %v, was %v", log, was)
	}
}

// last holds that of events the last one is the first that may not be, or, if it may be, that all may be.
func last(t *testing.T, c C, may bool, log ...Event) {
	t.Helper()
	want := len(log) - 1
	if may {
		want = -1
	}
	first(t, c, want, log...)
}

// P17.1: the chapter's example.
func TestExample(t *testing.T) {
	last(t, two, false, store(0, two.Word(3), 0, live(1).Pack()))
	last(t, two, false, store(1, two.Word(2), 0, live(1).Pack()))
	last(t, two, true, store(1, two.Word(3), 0, live(1).Pack()))
}

// P17.1: of no events all may be; of several that may not be the first one is told.
func TestFirst(t *testing.T) {
	first(t, two, -1)
	if audit.First(two, nil) != -1 {
		t.Error("nil")
	}
	ok, bad := load(0, 0, 0), load(0, -1, 0)
	first(t, two, -1, ok)
	first(t, two, -1, ok, ok, ok)
	first(t, two, 0, bad)
	first(t, two, 0, bad, ok, bad)
	first(t, two, 1, ok, bad, bad)
	first(t, two, 3, ok, ok, ok, bad)
}

// P17.1: Old has to be what the cell is, by the New of the last event of that cell, whoever did that; nought at first.
func TestOld(t *testing.T) {
	h := two.Hazard(0)
	last(t, two, false, load(0, h, 1))
	last(t, two, false, store(0, h, 1, 4))
	last(t, two, false, store(0, h, top, 0))
	last(t, two, true, store(0, h, 0, 4), load(1, h, 4))
	last(t, two, false, store(0, h, 0, 4), load(1, h, 0))
	last(t, two, false, store(0, h, 0, 4), load(1, h, 5))
	last(t, two, true, store(0, h, 0, 4), store(0, h, 4, top), load(0, h, top))
	last(t, two, false, store(0, h, 0, 4), store(0, h, 4, 9), load(0, h, 4))
	last(t, two, true, store(0, h, 0, 4), load(1, h, 4), store(0, h, 4, 0), load(1, h, 0))
	last(t, two, false, store(0, h, 0, 4), store(0, h, 4, 0), load(1, h, 4))
	// other cells' events turn nothing in it
	last(t, two, true, store(0, h, 0, 4), store(1, two.Hazard(1), 0, 6), load(1, 0, 0), load(1, h, 4))
	last(t, two, false, store(0, h, 0, 4), store(1, two.Hazard(1), 0, 6), load(1, h, 6))
}

// P17.1: Old has to be so whatever cell it is, and whatever is done.
func TestOldWherever(t *testing.T) {
	in, out := live(1).Pack(), live(1).Taken().Pack()
	count, stutter, swaps := two, two, two
	stutter.Source, swaps.Source = lay.Stutter, lay.Swap
	for _, x := range []struct {
		c   C
		log []Event
	}{
		{two, []Event{load(1, 0, 0)}},
		{two, []Event{store(0, 0, 0, in), lost(1, 0, in)}},
		{two, []Event{store(0, 0, 0, in), swap(1, 0, in, out)}},
		{two, []Event{store(0, two.Value(2), 0, 7)}},
		{two, []Event{store(0, two.Hazard(0), 0, 7)}},
		{count, []Event{add(1, two.Number(0), 0, 1)}},
		{stutter, []Event{load(0, two.Number(1), 0)}},
		{stutter, []Event{store(1, two.Number(1), 0, 9)}},
		{swaps, []Event{load(1, two.Number(0), 0)}},
		{swaps, []Event{swap(1, two.Number(0), 0, 1)}},
		{swaps, []Event{lost(1, two.Number(0), 0)}},
	} {
		last(t, x.c, true, x.log...)
		e := &x.log[len(x.log)-1]
		// another number, and what would be all right if the cell were that
		for _, off := range []uint64{1, 1 << word.Gone, 1 << 63, top} {
			e.Old += off
			last(t, x.c, false, x.log...)
			e.New += off
			last(t, x.c, false, x.log...)
			e.Old, e.New = e.Old-off, e.New-off
		}
	}
}

// P17.1: Who has to be a thread.
func TestWho(t *testing.T) {
	for _, cell := range []int{two.Word(0), two.Word(5), two.Hazard(0), two.Hazard(1)} {
		for _, x := range []struct {
			who int
			may bool
		}{{0, true}, {1, true}, {2, false}, {-1, false}, {3, false}, {least, false}, {great, false}} {
			last(t, two, x.may, load(x.who, cell, 0))
			last(t, two, x.may, load(0, cell, 0), load(x.who, cell, 0))
		}
	}
	for _, who := range []int{-1, 2, least, great} {
		last(t, two, false, lost(who, 0, 0))
		last(t, two, false, add(who, two.Number(0), 0, 1))
		last(t, two, false, store(who, two.Hazard(0), 0, 1))
		last(t, two, false, store(who, two.Word(0), 0, live(1).Pack()))
		last(t, two, false, store(who, two.Value(0), 0, 1))
	}
	one := C{Threads: 1, Slots: 1}
	last(t, one, true, load(0, 0, 0))
	last(t, one, false, load(1, 0, 0))
}

// P17.1: the cell has to be there.
func TestCell(t *testing.T) {
	for _, c := range []C{two, {Threads: 1, Slots: 1, Source: lay.Stutter}, {Threads: 64, Slots: 64, Source: lay.Swap}} {
		for _, cell := range []int{-1, c.Cells(), c.Cells() + 1, -c.Cells(), least, great} {
			last(t, c, false, load(0, cell, 0))
			last(t, c, false, store(0, cell, 0, 1))
			last(t, c, false, swap(0, cell, 0, 1))
			last(t, c, false, lost(0, cell, 0))
			last(t, c, false, add(0, cell, 0, 1))
		}
	}
	stutter := C{Threads: 2, Slots: 3, Source: lay.Stutter}
	last(t, stutter, true, load(0, stutter.Cells()-1, 0))
}

// P17.1: of a Word anybody may Load, whatever it is.
func TestLoadWord(t *testing.T) {
	in, out := live(1).Pack(), live(1).Taken().Pack()
	for slot := range two.All() {
		for who := range two.Threads {
			own := two.Owner(slot)
			last(t, two, true, load(who, slot, 0))
			last(t, two, true, store(own, slot, 0, in), load(who, slot, in))
			last(t, two, true, store(own, slot, 0, in), swap(who, slot, in, out), load(who, slot, out))
		}
	}
}

// P17.1: a Word may be Stored where it isn't Live: its Next, at whichever end, with a Right Stamp.
func TestStoreWord(t *testing.T) {
	w := func(state word.State, end word.End, gen, lo, hi int) uint64 {
		return W{State: state, End: end, Gen: gen, Stamp: S{Lo: lo, Hi: hi}}.Pack()
	}
	gone := used(two, 1, 2)
	for _, x := range []struct {
		log  []Event
		old  uint64
		next uint64
		may  bool
	}{
		{nil, 0, w(word.Live, word.Left, 1, 0, 0), true},
		{nil, 0, w(word.Live, word.Right, 1, 0, 0), true},
		{nil, 0, w(word.Live, word.Right, 1, 3, 9), true},
		{nil, 0, w(word.Live, word.Left, 1, 0, stamp.Top-1), true},
		{nil, 0, w(word.Live, word.Left, 1, stamp.Top-1, stamp.Top-1), true},
		// a Stamp that isn't Right
		{nil, 0, w(word.Live, word.Left, 1, 0, stamp.Top), false},
		{nil, 0, w(word.Live, word.Left, 1, stamp.Top, stamp.Top), false},
		{nil, 0, w(word.Live, word.Left, 1, 4, 3), false},
		{nil, 0, w(word.Live, word.Right, 1, stamp.Top, 0), false},
		// another State
		{nil, 0, 0, false},
		{nil, 0, w(word.Free, word.Left, 1, 0, 0), false},
		{nil, 0, w(word.Gone, word.Left, 1, 0, 0), false},
		{nil, 0, w(word.Live, word.Left, 1, 0, 0) | 3, false},
		// another Gen
		{nil, 0, w(word.Live, word.Left, 0, 0, 0), false},
		{nil, 0, w(word.Live, word.Left, 2, 0, 0), false},
		{nil, 0, w(word.Live, word.Left, word.MaxGen, 0, 0), false},
		// behind it was Gone: its Stamp needn't be behind the one that it had
		{gone, gone[3].New, w(word.Live, word.Left, 3, 9, 9), true},
		{gone, gone[3].New, w(word.Live, word.Right, 3, 5, 8), true},
		{gone, gone[3].New, w(word.Live, word.Left, 3, 0, 0), true},
		{gone, gone[3].New, w(word.Live, word.Left, 2, 9, 9), false},
		{gone, gone[3].New, w(word.Live, word.Left, 1, 9, 9), false},
		{gone, gone[3].New, w(word.Live, word.Left, 4, 9, 9), false},
		{gone, gone[3].New, w(word.Gone, word.Left, 3, 9, 9), false},
		{gone, gone[3].New, gone[3].New, false},
		{gone, gone[3].New, 0, false},
		{gone, gone[3].New, w(word.Live, word.Left, 3, 9, 8), false},
		// where it is Live
		{gone[:3], gone[2].New, w(word.Live, word.Left, 3, 9, 9), false},
		{gone[:3], gone[2].New, w(word.Live, word.Left, 2, 9, 9), false},
		{gone[:3], gone[2].New, gone[2].New, false},
		{gone[:3], gone[2].New, gone[3].New, false},
	} {
		last(t, two, x.may, append(slices.Clone(x.log), store(0, 1, x.old, x.next))...)
	}
}

// P17.1: a Word may be Stored by the place's Owner alone, whatever it is.
func TestStoreWordOwner(t *testing.T) {
	for slot := range two.All() {
		for who := range two.Threads {
			last(t, two, who == slot/3, store(who, slot, 0, live(1).Pack()))
			log := used(two, slot, 1)
			last(t, two, who == slot/3, append(log, store(who, slot, log[1].New, live(2).Pack()))...)
		}
	}
}

// P17.1: where the Gen is MaxGen there is no Next.
func TestStoreWordMaxGen(t *testing.T) {
	log := used(two, 3, word.MaxGen)
	first(t, two, -1, log...)
	was := log[len(log)-1].New
	if word.Unpack(was).Gen != word.MaxGen {
		t.Fatalf("the Gen is %d", word.Unpack(was).Gen)
	}
	for _, next := range []uint64{
		live(0).Pack(), live(1).Pack(), live(word.MaxGen).Pack(), live(word.MaxGen - 1).Pack(),
		live(word.MaxGen + 1).Pack(), W{}.Pack(), word.Unpack(was).Next(word.Left, S{}).Pack(),
		1 << 16, 1 | 1<<16, was, 1, 1 | (word.MaxGen+1)<<3,
	} {
		last(t, two, false, append(slices.Clone(log), store(1, 3, was, next))...)
	}
	short := used(two, 3, word.MaxGen-1)
	last(t, two, true, append(short, store(1, 3, short[len(short)-1].New, live(word.MaxGen).Pack()))...)
}

// P17.1: of a Word a Swap may be that isn't OK, or by which a Live one is Taken, by whomever.
func TestSwapWord(t *testing.T) {
	in, out := live(1), live(1).Taken()
	put, taken := store(0, 2, 0, in.Pack()), swap(0, 2, in.Pack(), out.Pack())
	other := func(turn func(w *W)) uint64 {
		w := out
		turn(&w)
		return w.Pack()
	}
	for who := range two.Threads {
		last(t, two, true, lost(who, 2, 0))
		last(t, two, true, put, lost(who, 2, in.Pack()))
		last(t, two, true, put, taken, lost(who, 2, out.Pack()))
		last(t, two, true, put, swap(who, 2, in.Pack(), out.Pack()))
		for _, next := range []uint64{
			0, in.Pack(), out.Pack() | 3, live(2).Pack(), live(2).Taken().Pack(),
			other(func(w *W) { w.State = word.Free }), other(func(w *W) { w.End = word.Right }), other(func(w *W) { w.Gen = 0 }),
			other(func(w *W) { w.Gen = 2 }), other(func(w *W) { w.Stamp.Lo = 4 }), other(func(w *W) { w.Stamp.Hi = 9 }),
		} {
			last(t, two, false, put, swap(who, 2, in.Pack(), next))
		}
		// where it is Free, or Gone
		last(t, two, false, swap(who, 2, 0, in.Pack()))
		last(t, two, false, swap(who, 2, 0, W{}.Taken().Pack()))
		last(t, two, false, swap(who, 2, 0, 0))
		last(t, two, false, put, taken, swap(who, 2, out.Pack(), out.Pack()))
		last(t, two, false, put, taken, swap(who, 2, out.Pack(), live(2).Pack()))
	}
	right := W{State: word.Live, End: word.Right, Gen: 1, Stamp: S{Lo: stamp.Top - 1, Hi: stamp.Top - 1}}
	last(t, two, true, store(0, 2, 0, right.Pack()), swap(1, 2, right.Pack(), right.Taken().Pack()))
}

// P17.1: of a Word there is no Add, and of no cell another Op.
func TestOps(t *testing.T) {
	last(t, two, false, add(0, 0, 0, live(1).Pack()))
	last(t, two, false, add(0, 0, 0, 0))
	for _, source := range []lay.Source{lay.Count, lay.Stutter, lay.Swap, lay.Clock, lay.Wide} {
		c := C{Threads: 2, Slots: 1, Source: source}
		for cell := range c.Cells() {
			for _, op := range []mem.Op{-1, mem.Add + 1, mem.Op(least), mem.Op(great)} {
				for next := range uint64(3) {
					last(t, c, false, Event{Op: op, Cell: cell, New: next, OK: true})
					last(t, c, false, Event{Op: op, Cell: cell, New: next})
				}
			}
		}
	}
}

// look is what a thread does ahead of the Load of a Value: the place's Hazard, and its Word.
func look(c C, who, slot int, w uint64) []Event {
	return []Event{store(who, c.Hazard(who), 0, uint64(slot)+1), load(who, c.Word(slot), w)}
}

// P17.1: a Value may be Loaded by whoever has the place's Hazard, and has Loaded its Word, in whichever order.
func TestLoadValue(t *testing.T) {
	for slot := range two.All() {
		for who := range two.Threads {
			read := load(who, two.Value(slot), 0)
			l := look(two, who, slot, 0)
			last(t, two, true, l[0], l[1], read)
			last(t, two, true, l[1], l[0], read)
			last(t, two, true, l[0], l[1], read, read)
			last(t, two, false, read)
			last(t, two, false, l[0], read)
			last(t, two, false, l[1], read)
			o := look(two, 1-who, slot, 0) // another one's don't do
			last(t, two, false, o[0], o[1], read)
			last(t, two, false, o[0], l[1], read)
			last(t, two, false, l[0], o[1], read)
			last(t, two, false, o[0], o[1], l[0], read)
			last(t, two, false, o[0], o[1], l[1], read)
			last(t, two, true, o[0], o[1], l[0], l[1], read)
		}
	}
}

// P17.1: the Hazard has to be that place's number and 1 when the Value is Loaded.
func TestLoadValueHazard(t *testing.T) {
	h, w, read := two.Hazard(1), load(1, 4, 0), load(1, two.Value(4), 0)
	for _, x := range []uint64{0, 1, 4, 6, 7, 5 + 1<<32, top} {
		last(t, two, false, store(1, h, 0, x), w, read)
		last(t, two, false, store(1, h, 0, 5), w, store(1, h, 5, x), read)
		last(t, two, true, store(1, h, 0, x), w, store(1, h, x, 5), read)
	}
	last(t, two, true, store(1, h, 0, 5), w, store(0, two.Hazard(0), 0, 1), read)
}

// P17.1: it is that place's Word that was Loaded, and it was Loaded: a Swap doesn't do.
func TestLoadValueWord(t *testing.T) {
	h, read := store(1, two.Hazard(1), 0, 5), load(1, two.Value(4), 0)
	last(t, two, false, h, load(1, 3, 0), load(1, 5, 0), load(1, two.Hazard(0), 0), read)
	last(t, two, false, h, lost(1, 4, 0), read)
	last(t, two, false, h, store(1, 4, 0, live(1).Pack()), read)
	last(t, two, false, h, store(1, 4, 0, live(1).Pack()), swap(1, 4, live(1).Pack(), live(1).Taken().Pack()), read)
	last(t, two, true, h, load(1, 4, 0), load(1, 3, 0), read)
}

// P17.1: the Gen that was Loaded last has to be that of the Word now, whatever its State.
func TestLoadValueGen(t *testing.T) {
	in, out, anew := live(1).Pack(), live(1).Taken().Pack(), live(2).Pack()
	h, read := store(0, two.Hazard(0), 0, 5), load(0, two.Value(4), 0)
	put, take, again := store(1, 4, 0, in), swap(1, 4, in, out), store(1, 4, out, anew)
	last(t, two, true, put, h, load(0, 4, in), read)
	last(t, two, true, put, h, load(0, 4, in), take, read)
	last(t, two, true, put, take, h, load(0, 4, out), read)
	last(t, two, false, put, h, load(0, 4, in), take, again, read)
	last(t, two, false, put, take, h, load(0, 4, out), again, read)
	last(t, two, false, h, load(0, 4, 0), put, read)
	last(t, two, false, h, load(0, 4, 0), put, take, read)
	// the last one that it Loaded, not any one
	last(t, two, true, h, load(0, 4, 0), put, load(0, 4, in), take, read)
	last(t, two, true, put, h, load(0, 4, in), take, again, load(0, 4, anew), read)
	last(t, two, false, put, h, load(0, 4, in), take, again, load(1, 4, anew), read)
	last(t, two, false, put, h, load(0, 4, in), take, again, load(0, 3, 0), read)
	last(t, two, false, put, h, load(0, 4, in), take, again, lost(0, 4, anew), read)
}

// P17.1: a Value may be Stored by the Owner, where the Word isn't Live, whatever is Stored, whoever looks at it.
func TestStoreValue(t *testing.T) {
	for slot := range two.All() {
		v, in, out := two.Value(slot), live(1).Pack(), live(1).Taken().Pack()
		for who := range two.Threads {
			own := two.Owner(slot)
			fill := store(who, v, 0, 7)
			put, take := store(own, slot, 0, in), swap(1-own, slot, in, out)
			last(t, two, who == own, fill)
			last(t, two, who == own, store(who, v, 0, 0))
			last(t, two, who == own, store(who, v, 0, top))
			last(t, two, false, put, fill)
			last(t, two, who == own, put, take, fill)
			last(t, two, who == own, store(1-own, two.Hazard(1-own), 0, uint64(slot)+1), fill)
			last(t, two, who == own, store(own, v, 0, 5), store(who, v, 5, 6))
			last(t, two, false, put, take, store(own, slot, out, live(2).Pack()), fill)
			// another place's Word is all one
			last(t, two, who == own, store(own, own*3+(slot+1)%3, 0, in), fill)
		}
	}
}

// P17.1: of a Value nothing else may be.
func TestTurnValue(t *testing.T) {
	for who := range two.Threads {
		l := look(two, who, 0, 0)
		v := two.Value(0)
		last(t, two, false, l[0], l[1], swap(who, v, 0, 7))
		last(t, two, false, l[0], l[1], swap(who, v, 0, 0))
		last(t, two, false, l[0], l[1], lost(who, v, 0))
		last(t, two, false, l[0], l[1], add(who, v, 0, 1))
		last(t, two, false, l[0], l[1], add(who, v, 0, 0))
	}
}

// P17.1: of a Hazard anybody may Load; its own thread may Store whatever.
func TestHazard(t *testing.T) {
	for thread := range two.Threads {
		h := two.Hazard(thread)
		for who := range two.Threads {
			last(t, two, true, load(who, h, 0))
			for _, x := range []uint64{0, 1, 6, 7, top} {
				last(t, two, who == thread, store(who, h, 0, x))
				last(t, two, true, store(thread, h, 0, x), load(who, h, x))
				last(t, two, who == thread, store(thread, h, 0, x), store(who, h, x, 3))
			}
			last(t, two, false, swap(who, h, 0, 1))
			last(t, two, false, lost(who, h, 0))
			last(t, two, false, add(who, h, 0, 1))
			last(t, two, false, add(who, h, 0, 0))
		}
	}
}

// numberLogs are what may be tried on the cell of a Number, one a list.
func numberLogs(n, who int) [][]Event {
	return [][]Event{
		{load(who, n, 0)},
		{store(who, n, 0, 1)}, {store(who, n, 0, top)}, {store(who, n, 0, 0)},
		{swap(who, n, 0, 1)}, {swap(who, n, 0, 2)}, {swap(who, n, 0, 0)}, {swap(who, n, 0, top)}, {lost(who, n, 0)},
		{add(who, n, 0, 1)}, {add(who, n, 0, 2)}, {add(who, n, 0, 0)}, {add(who, n, 0, top)},
	}
}

// P17.1: of Numbers, by each Source, what is told may be, and nothing else.
func TestNumbers(t *testing.T) {
	for _, x := range []struct {
		source lay.Source
		may    func(thread, who, i int) bool
	}{
		{lay.Count, func(thread, who, i int) bool { return thread == 0 && i == 9 }},
		{lay.Stutter, func(thread, who, i int) bool { return i == 0 || who == thread && (i == 1 || i == 2) }},
		{lay.Swap, func(thread, who, i int) bool { return thread == 0 && (i == 0 || i == 4 || i == 8) }},
		{lay.Clock, func(thread, who, i int) bool { return false }},
		{lay.Wide, func(thread, who, i int) bool { return false }},
	} {
		c := C{Threads: 3, Slots: 2, Source: x.source, Delay: 5}
		for thread := range c.Threads {
			for who := range c.Threads {
				for i, log := range numberLogs(c.Number(thread), who) {
					last(t, c, x.may(thread, who, i), log...)
				}
			}
		}
	}
}

// P17.1: a Number is counted up from whatever it is.
func TestNumbersOn(t *testing.T) {
	c, n := two, two.Number(0)
	last(t, c, true, add(0, n, 0, 1), add(1, n, 1, 1), add(1, n, 2, 1))
	last(t, c, false, add(0, n, 0, 1), add(1, n, 1, 2))
	last(t, c, false, add(0, n, 0, 1), add(1, n, 1, top))
	c.Source = lay.Swap
	last(t, c, true, swap(0, n, 0, 1), load(1, n, 1), swap(1, n, 1, 2), lost(0, n, 2))
	last(t, c, false, swap(0, n, 0, 1), swap(1, n, 1, 3))
	last(t, c, false, swap(0, n, 0, 1), swap(1, n, 1, 1))
	last(t, c, false, swap(0, n, 0, 1), swap(1, n, 1, 0))
	c.Source = lay.Stutter
	last(t, c, true, store(0, n, 0, 5), store(0, n, 5, 6), store(0, n, 6, 1<<40))
	last(t, c, false, store(0, n, 0, 5), store(0, n, 5, 5))
	last(t, c, false, store(0, n, 0, 5), store(0, n, 5, 4))
	last(t, c, false, store(0, n, 0, 5), store(0, n, 5, 0))
	last(t, c, false, store(0, n, 0, 5), store(1, n, 5, 6))
	last(t, c, true, store(0, n, 0, 5), store(1, c.Number(1), 0, 3), store(0, n, 5, top))
}

// P17.1: what isn't named is all one: the OK of what is no Swap, and the New of a Load, or of a Swap that isn't OK, by
// which the cell is then; of a Load's Word it is Old that was Loaded.
func TestWhatever(t *testing.T) {
	in := live(1).Pack()
	for _, e := range []Event{load(1, 0, 0), store(0, 0, 0, in), store(0, two.Value(0), 0, 7), store(0, two.Hazard(0), 0, 3), add(1, two.Number(0), 0, 1)} {
		e.OK = false
		last(t, two, true, e)
	}
	odd := Event{Who: 1, Cell: 0, New: in}
	for _, op := range []mem.Op{mem.Load, mem.Swap} {
		odd.Op = op
		last(t, two, true, odd)
		last(t, two, true, odd, load(0, 0, in))
		last(t, two, false, odd, load(0, 0, 0))
		last(t, two, false, odd, store(0, two.Value(0), 0, 7))
	}
	l := look(two, 1, 0, 0)
	odd.Op = mem.Load
	last(t, two, false, l[0], odd, load(1, two.Value(0), 0))
	odd.New = 9 << 16 // of the same Gen
	last(t, two, true, l[0], odd, load(1, two.Value(0), 0))
}

// P17.2: Counts tells how many Words are Free, Live, Gone; one of another State is none of these.
func TestCounts(t *testing.T) {
	free, in, out := W{Gen: 3, End: word.Right, Stamp: S{Lo: 2, Hi: 1}}.Pack(), live(4).Pack(), live(word.MaxGen).Taken().Pack()
	for _, x := range []struct {
		words []uint64
		want  [3]int
	}{
		{nil, [3]int{}}, {[]uint64{}, [3]int{}},
		{[]uint64{0}, [3]int{1, 0, 0}}, {[]uint64{1}, [3]int{0, 1, 0}}, {[]uint64{2}, [3]int{0, 0, 1}}, {[]uint64{3}, [3]int{}},
		{[]uint64{4}, [3]int{1, 0, 0}}, {[]uint64{5}, [3]int{0, 1, 0}}, {[]uint64{6}, [3]int{0, 0, 1}}, {[]uint64{7}, [3]int{}},
		{[]uint64{top}, [3]int{}}, {[]uint64{top - 1}, [3]int{0, 0, 1}}, {[]uint64{top - 2}, [3]int{0, 1, 0}}, {[]uint64{top - 3}, [3]int{1, 0, 0}},
		{[]uint64{free, free, free, in, in, out}, [3]int{3, 2, 1}},
		{[]uint64{out, top, in, out, 0, out, out, free, in}, [3]int{2, 2, 4}},
		{make([]uint64, 4096), [3]int{4096, 0, 0}},
	} {
		was := slices.Clone(x.words)
		f, l, g := audit.Counts(x.words)
		if (f != x.want[0]) || l != x.want[1] || g != x.want[2] {
			t.Errorf("Counts of %x: %d, %d, %d, want %v", x.words, f, l, g, x.want)
		}
		if !slices.Equal(x.words, was) {
			t.Errorf("the list is %x, was %x", x.words, was)
		}
	}
}
