package lin_test

import (
	"math"
	"slices"
	"testing"

	"stackyard/lin"
	"stackyard/stamp"
	"stackyard/task"
	"stackyard/word"
	"stackyard/yard"
)

type (
	Call  = task.Call
	Deed  = yard.Deed
	Reply = task.Reply
)

const (
	left  = word.Left
	right = word.Right
	top   = math.MaxUint64
)

// put is a Put that is OK.
func put(end word.End, value uint64) Deed {
	return Deed{Call: Call{Kind: task.Put, End: end, Value: value}, Reply: Reply{OK: true}}
}

// full is a Put that isn't OK.
func full(end word.End, value uint64) Deed {
	return Deed{Call: Call{Kind: task.Put, End: end, Value: value}}
}

// get is a Get that is OK.
func get(end word.End, value uint64) Deed {
	return Deed{Call: Call{Kind: task.Get, End: end}, Reply: Reply{OK: true, Value: value}}
}

// none is a Get that isn't OK.
func none(end word.End) Deed { return Deed{Call: Call{Kind: task.Get, End: end}} }

// at is a call that was begun, and over, at these moves.
func at(d Deed, from, to int) Deed {
	d.From, d.To = from, to
	return d
}

// open is a call that isn't over.
func open(d Deed, from int) Deed { return at(Deed{Call: d.Call}, from, -1) }

// does holds what a row is behind a call that may be answered so.
func does(t *testing.T, row []uint64, d Deed, want ...uint64) {
	t.Helper()
	if got, ok := lin.Do(row, d); !ok || !slices.Equal(got, want) {
		t.Errorf("%v behind %v: %v, %v, want %v", row, d, got, ok, want)
	}
}

// refuses holds that a call can't be answered so.
func refuses(t *testing.T, row []uint64, d Deed) {
	t.Helper()
	if _, ok := lin.Do(row, d); ok {
		t.Errorf("%v behind %v may be", row, d)
	}
}

// legal holds whether calls may be answered so, one behind the other.
func legal(t *testing.T, want bool, list ...Deed) {
	t.Helper()
	if lin.Legal(list) != want {
		t.Errorf("Legal of %v: %v", list, !want)
	}
}

// finds holds that this is the order that is found: there is no other one.
func finds(t *testing.T, list []Deed, want ...int) {
	t.Helper()
	if got, ok := lin.Find(list); !ok || !slices.Equal(got, want) {
		t.Errorf("Find of %v: %v, %v, want %v", list, got, ok, want)
	}
}

// lost holds that there is no order.
func lost(t *testing.T, list ...Deed) {
	t.Helper()
	if got, ok := lin.Find(list); ok || len(got) > 0 {
		t.Errorf("Find of %v: %v, %v", list, got, ok)
	}
}

// P15.1: a Put that is OK: the value stands at its End besides.
func TestDoPut(t *testing.T) {
	does(t, nil, put(left, 7), 7)
	does(t, []uint64{}, put(right, 7), 7)
	does(t, []uint64{1, 2}, put(left, 7), 7, 1, 2)
	does(t, []uint64{1, 2}, put(right, 7), 1, 2, 7)
	does(t, []uint64{5}, put(left, 5), 5, 5)
	does(t, []uint64{0, top}, put(right, 0), 0, top, 0)
	does(t, []uint64{0, top}, put(left, top), top, 0, top)
}

// P15.1: a Put that isn't OK: the row stays.
func TestDoFull(t *testing.T) {
	for _, row := range [][]uint64{nil, {}, {0}, {1, 2}, {7, 7, 7}} {
		does(t, row, full(left, 7), row...)
		does(t, row, full(right, 0), row...)
	}
}

// P15.1: a Get that is OK: what stands at its End is the Reply's Value, and is gone then.
func TestDoGet(t *testing.T) {
	does(t, []uint64{7}, get(left, 7))
	does(t, []uint64{7}, get(right, 7))
	does(t, []uint64{1, 2, 3}, get(left, 1), 2, 3)
	does(t, []uint64{1, 2, 3}, get(right, 3), 1, 2)
	does(t, []uint64{0, 5}, get(left, 0), 5)
	does(t, []uint64{5, top}, get(right, top), 5)
	does(t, []uint64{4, 4}, get(right, 4), 4)
	for _, end := range []word.End{left, right} {
		refuses(t, nil, get(end, 0))
		refuses(t, []uint64{}, get(end, 7))
		refuses(t, []uint64{1, 2, 3}, get(end, 2))
		refuses(t, []uint64{1, 2, 3}, get(end, 0))
		refuses(t, []uint64{1, 1}, get(end, top))
	}
	refuses(t, []uint64{1, 2, 3}, get(left, 3))
	refuses(t, []uint64{1, 2, 3}, get(right, 1))
}

// P15.1: a Get that isn't OK: the row is empty, and stays so.
func TestDoNone(t *testing.T) {
	for _, end := range []word.End{left, right} {
		does(t, nil, none(end))
		does(t, []uint64{}, none(end))
		refuses(t, []uint64{0}, none(end))
		refuses(t, []uint64{1, 2}, none(end))
	}
}

// P15.1: it is the Call's Kind, End and Value, and the Reply's OK and Value, that tell; all else is all one.
func TestDoWhatever(t *testing.T) {
	whatever := func(d Deed) Deed {
		d.Who, d.From, d.To, d.Call.Start, d.Reply.Stamp = -3, 9, -1, 7, stamp.Stamp{Lo: 5, Hi: 2}
		if d.Call.Kind == task.Put {
			d.Reply.Value = 3
		} else {
			d.Call.Value = 3
		}
		return d
	}
	does(t, []uint64{1, 2}, whatever(put(left, 7)), 7, 1, 2)
	does(t, []uint64{1, 2}, whatever(full(left, 7)), 1, 2)
	does(t, []uint64{1, 2}, whatever(get(right, 2)), 1)
	refuses(t, []uint64{1, 3}, whatever(get(left, 3)))
	does(t, nil, whatever(none(right)))
	refuses(t, []uint64{3}, whatever(none(right)))
	odd := none(left)
	odd.Reply.Value = 1
	does(t, nil, odd)
	refuses(t, []uint64{1}, odd)
}

// P15.1: Legal: all of them, one behind the other, on a row that is empty at first.
func TestLegal(t *testing.T) {
	legal(t, true)
	legal(t, true, put(right, 1), put(left, 2), get(right, 1), get(right, 2), none(left))
	legal(t, true, put(left, 1), put(left, 2), put(left, 3), get(left, 3), get(left, 2), get(left, 1), none(right))
	legal(t, true, put(right, 1), put(right, 2), put(right, 3), get(left, 1), get(left, 2), get(left, 3), none(right))
	legal(t, true, none(left), none(right), full(left, 5), none(left), put(left, 0), get(right, 0), none(left))
	legal(t, true, put(left, 1), put(right, 2), put(left, 3), get(right, 2), put(right, 4), get(left, 3), get(right, 4), get(left, 1), none(left))
	legal(t, true, full(right, 9), put(right, 4), full(left, 4), get(left, 4), none(right))
	legal(t, true, put(right, 6), put(right, 6), get(left, 6), get(left, 6))
	legal(t, false, get(left, 0))
	legal(t, false, put(right, 1), none(left))
	legal(t, false, full(right, 1), get(left, 1))
	legal(t, false, put(right, 1), put(right, 2), get(right, 1))
	legal(t, false, put(right, 1), put(left, 2), get(right, 2))
	legal(t, false, put(right, 1), get(left, 1), get(left, 1))
	legal(t, false, put(right, 1), get(left, 1), none(left), get(right, 1))
	legal(t, false, get(left, 1), put(left, 1))
	legal(t, false, put(right, 1), put(right, 2), get(left, 1), none(right))
}

// P15.1: when they were is all one to Legal; what isn't over counts by its Reply, which isn't OK.
func TestLegalMoves(t *testing.T) {
	legal(t, true, at(put(right, 1), 9, 8), at(get(left, 1), 0, 1), at(none(left), 4, -1))
	legal(t, true, open(put(right, 1), 0), none(left), open(get(left, 0), 1), put(left, 2))
	legal(t, false, open(put(right, 1), 0), get(left, 1))
	legal(t, false, put(left, 2), open(get(left, 0), 1), none(left))
}

// P15.1: of as many calls as a script may have moves, all is told.
func TestLegalMany(t *testing.T) {
	const count = 1 << 16
	var list []Deed
	for i := range uint64(count / 2) {
		list = append(list, put(word.End(i%2), i))
	}
	for i := range uint64(count / 2) {
		list = append(list, get(word.End(1-i%2), count/2-1-i))
	}
	legal(t, true, list...)
	legal(t, true, append(list, none(left))...)
	legal(t, false, append(list, get(right, 0))...)
	list[count-1].Reply.Value++
	legal(t, false, list...)
}

// P15.2: the chapter's example: of two within each other the one that came last is told by what was had.
func TestFindExample(t *testing.T) {
	finds(t, []Deed{at(put(right, 1), 0, 3), at(put(right, 2), 1, 2), at(get(right, 1), 4, 5)}, 1, 0, 2)
	finds(t, []Deed{at(put(right, 1), 0, 3), at(put(right, 2), 1, 2), at(get(right, 2), 4, 5)}, 0, 1, 2)
}

// P15.2: none of no calls is an order.
func TestFindNothing(t *testing.T) {
	finds(t, nil)
	finds(t, []Deed{})
}

// P15.2: each that is over stands in the order; one alone, too.
func TestFindOver(t *testing.T) {
	finds(t, []Deed{at(put(right, 1), 0, 1)}, 0)
	finds(t, []Deed{at(full(right, 1), 0, 1)}, 0)
	finds(t, []Deed{at(none(right), 0, 1)}, 0)
	finds(t, []Deed{at(none(right), 0, 0)}, 0) // To is 0: it is over
	lost(t, at(get(right, 1), 0, 1))
	lost(t, at(get(right, 0), 0, 0))
	lost(t, at(put(left, 1), 0, 5), at(get(left, 1), 1, 4), at(get(left, 1), 2, 3))
	lost(t, at(put(left, 1), 0, 5), at(get(left, 2), 1, 4))
	lost(t, at(full(left, 1), 0, 5), at(get(left, 1), 1, 4))
}

// P15.2: one that is Before another one stands ahead of it; at the same move it isn't Before it.
func TestFindBefore(t *testing.T) {
	finds(t, []Deed{at(none(left), 0, 2), at(put(left, 1), 1, 4), at(get(right, 1), 3, 5)}, 0, 1, 2)
	finds(t, []Deed{at(get(left, 1), 4, 5), at(put(left, 1), 0, 1)}, 1, 0)
	finds(t, []Deed{at(get(left, 1), 0, 4), at(put(left, 1), 3, 5)}, 1, 0)
	finds(t, []Deed{at(get(left, 1), 0, 4), at(put(left, 1), 4, 5)}, 1, 0)
	lost(t, at(get(left, 1), 0, 3), at(put(left, 1), 4, 5))
	lost(t, at(put(right, 1), 0, 1), at(put(right, 2), 2, 3), at(get(right, 1), 4, 5))
	lost(t, at(put(right, 1), 0, 1), at(put(right, 2), 2, 3), at(get(left, 2), 4, 5))
	lost(t, at(put(right, 1), 0, 1), at(none(left), 2, 3))
	lost(t, at(put(right, 1), 0, 1), at(none(left), 2, 5), at(get(left, 1), 6, 7))
	finds(t, []Deed{at(put(right, 1), 0, 1), at(none(left), 2, 5), at(get(left, 1), 3, 4)}, 0, 2, 1)
}

// P15.2: deeds that can't be: one may be Before itself; of two that are Before each other there is no order.
func TestFindOdd(t *testing.T) {
	finds(t, []Deed{at(put(left, 1), 5, 4)}, 0)
	finds(t, []Deed{at(get(left, 1), 9, 8), at(put(left, 1), 5, 4)}, 1, 0)
	lost(t, at(full(left, 1), 5, 0), at(full(left, 1), 4, 1))
	lost(t, at(full(left, 1), 1, 0), at(full(left, 1), 1, 0))
	finds(t, []Deed{at(none(left), math.MaxInt, 0), open(full(left, 1), math.MinInt)}, 0)
}

// P15.2: one that isn't over may stand in the order, if that helps, as if it were answered OK.
func TestFindOpen(t *testing.T) {
	finds(t, []Deed{open(put(right, 1), 0), at(get(right, 1), 1, 2)}, 0, 1)
	finds(t, []Deed{at(get(right, 1), 0, 2), open(put(right, 1), 1)}, 1, 0)
	finds(t, []Deed{at(get(right, 1), 0, 2), open(put(right, 1), 2)}, 1, 0)
	lost(t, at(get(right, 1), 0, 2), open(put(right, 1), 3))
	lost(t, at(get(right, 1), 0, 2), open(put(right, 2), 1))
	finds(t, []Deed{at(put(right, 1), 0, 1), open(get(left, 0), 2), at(none(right), 4, 5)}, 0, 1, 2)
	finds(t, []Deed{at(put(right, 1), 0, 1), at(none(right), 2, 4), open(get(left, 0), 3)}, 0, 2, 1)
	lost(t, at(put(right, 1), 0, 1), at(none(right), 2, 4), open(get(left, 0), 5))
	finds(t, []Deed{open(put(right, 1), 0), at(none(left), 1, 2), at(get(left, 1), 3, 4)}, 1, 0, 2)
}

// P15.2: such a Get is answered by whatever stands at its End then; it can't stand where there is nothing.
func TestFindOpenGet(t *testing.T) {
	ahead := []Deed{at(put(right, 1), 0, 1), at(put(right, 2), 2, 3)}
	finds(t, append(ahead, open(get(left, 0), 4), at(get(right, 2), 5, 6), at(none(left), 7, 8)), 0, 1, 2, 3, 4)
	finds(t, append(ahead, open(get(right, 0), 4), at(get(right, 1), 5, 6), at(none(left), 7, 8)), 0, 1, 2, 3, 4)
	finds(t, append(ahead, at(get(right, 2), 5, 6), open(get(right, 0), 4), at(none(left), 7, 8)), 0, 1, 2, 3, 4)
	lost(t, append(ahead, open(get(right, 0), 4), at(get(right, 1), 5, 6), at(get(right, 2), 7, 8))...)
	lost(t, append(ahead, open(get(left, 0), 4), at(none(left), 7, 8))...)
	finds(t, append(ahead, open(get(left, 0), 4), open(get(left, 0), 5), at(none(left), 7, 8)), 0, 1, 2, 3, 4)
	finds(t, []Deed{open(get(left, 0), 0), at(none(right), 1, 2)}, 1)
	finds(t, []Deed{open(get(left, 0), 0), at(put(right, 5), 1, 2), at(get(right, 5), 3, 4)}, 1, 2)
}

// P15.2: what isn't over counts as OK, whatever its Reply tells, and whichever number below 0 its To is.
func TestFindOpenReply(t *testing.T) {
	for _, to := range []int{-1, -2, math.MinInt} {
		finds(t, []Deed{at(full(right, 1), 0, to), at(get(right, 1), 1, 2)}, 0, 1)
		finds(t, []Deed{at(put(right, 1), 0, to), at(get(right, 1), 1, 2)}, 0, 1)
		finds(t, []Deed{at(put(right, 1), 0, 1), at(get(right, 7), 2, to), at(none(left), 3, 4)}, 0, 1, 2)
		lost(t, at(get(right, 7), 0, 1), at(get(right, 7), 2, to))
	}
}

// P15.2: where nothing is over, whatever was begun, there is an order.
func TestFindNothingOver(t *testing.T) {
	list := []Deed{open(get(left, 0), 0), open(put(right, 1), 1), open(get(left, 0), 2), open(get(left, 0), 3)}
	order, ok := lin.Find(list)
	if !ok || !inOrder(list, order) {
		t.Errorf("Find of %v: %v, %v", list, order, ok)
	}
}

// P15.2: of 9 deeds an order is looked for, of more it isn't, whether they are over or not.
func TestFindMany(t *testing.T) {
	if lin.MaxFind != 9 {
		t.Errorf("MaxFind is %d", lin.MaxFind)
	}
	var list, opened []Deed
	for i := range 10 {
		list = append(list, at(put(right, uint64(i)), 2*i, 2*i+1))
		opened = append(opened, open(put(right, uint64(i)), i))
	}
	finds(t, list[:9], 0, 1, 2, 3, 4, 5, 6, 7, 8)
	lost(t, list...)
	lost(t, opened...)
	lost(t, make([]Deed, 1<<16)...)
	if order, ok := lin.Find(opened[:9]); !ok || !inOrder(opened[:9], order) {
		t.Errorf("Find of %v: %v, %v", opened[:9], order, ok)
	}
}

// P15.2: of 9 within each other all orders are looked through, whether one is the last one that there is, or there is none.
func TestFindHard(t *testing.T) {
	var list []Deed
	for i := range uint64(8) {
		list = append(list, at(put(right, i), int(i), int(20-i)))
	}
	lost(t, append(list, at(get(right, 8), 8, 12))...)
	for i := range 4 {
		list[i+4] = at(get(left, uint64(3-i)), 30+2*i, 31+2*i)
	}
	finds(t, append(list, at(none(left), 40, 41)), 3, 2, 1, 0, 4, 5, 6, 7, 8)
	for i := range list {
		list[i] = open(put(left, uint64(i)), i)
	}
	lost(t, append(list, at(get(right, 8), 8, 9))...)
}

// Rule 1: of Calls that aren't Right the chapter says nothing; all ends all the same.
func TestCallsThatArent(t *testing.T) {
	var list []Deed
	for _, call := range []Call{{Kind: -1}, {Kind: 2, End: 5}, {End: -1, Value: 3}, {Kind: task.Get, End: 2}} {
		for _, reply := range []Reply{{}, {OK: true}, {OK: true, Value: 3}} {
			d := Deed{Call: call, Reply: reply}
			lin.Do(nil, d)
			lin.Do([]uint64{3, 0}, d)
			list = append(list, d)
			lin.Legal(list)
			lin.Find(list[len(list)-1:])
			lin.Find([]Deed{open(d, 0), at(d, 1, 2)})
		}
	}
}

// Rule 3: what is handed in isn't changed, an answer is new memory, and no later call turns it.
func TestNewMemory(t *testing.T) {
	whole := []uint64{9, 1, 2, 3, 8, 7, 6}
	row := whole[1:4]
	calls := []Deed{put(left, 7), put(right, 7), full(left, 7), get(left, 1), get(right, 3), none(left), get(left, 9)}
	for _, d := range calls {
		a, ok := lin.Do(row, d)
		b, _ := lin.Do(row, d)
		was := slices.Clone(b)
		for i := range a {
			a[i] = 99
		}
		_ = append(a, 98)
		if !slices.Equal(whole, []uint64{9, 1, 2, 3, 8, 7, 6}) || !slices.Equal(b, was) {
			t.Errorf("%v, %v: what was handed in lies in %v, another answer is %v, was %v", d, ok, whole, b, was)
		}
	}
	list := []Deed{at(put(right, 1), 0, 3), open(put(right, 2), 1), at(get(right, 2), 4, 5)}
	was := slices.Clone(list)
	a, _ := lin.Find(list)
	b, _ := lin.Find(list)
	lin.Legal(list)
	a[0], a[1] = 9, 9
	if !slices.Equal(list, was) || !slices.Equal(b, []int{0, 1, 2}) {
		t.Errorf("the list is %v, another answer %v", list, b)
	}
}
