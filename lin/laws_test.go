package lin_test

import (
	"slices"
	"testing"

	"stackyard/api"
	"stackyard/lay"
	"stackyard/lin"
	"stackyard/task"
	"stackyard/word"
	"stackyard/yard"
)

// numbers makes numbers by a rule.
type numbers uint64

func (x *numbers) under(n int) int {
	*x = *x*6364136223846793005 + 1442695040888963407
	return int(*x>>33) % n
}

// done is what Do should tell, asked word by word.
func done(row []uint64, d Deed) ([]uint64, bool) {
	if d.Call.Kind == task.Put {
		switch {
		case !d.Reply.OK:
			return row, true
		case d.Call.End == left:
			return append([]uint64{d.Call.Value}, row...), true
		}
		return append(slices.Clone(row), d.Call.Value), true
	}
	switch {
	case len(row) == 0 || !d.Reply.OK:
		return nil, len(row) == 0 && !d.Reply.OK
	case d.Call.End == left:
		return row[1:], row[0] == d.Reply.Value
	}
	return row[:len(row)-1], row[len(row)-1] == d.Reply.Value
}

// inRow tells whether calls may be answered so, one behind the other; those that aren't over, as if they were OK.
func inRow(list []Deed, order []int) bool {
	var row []uint64
	ok := true
	for _, i := range order {
		d := list[i]
		if d.To < 0 {
			d.Reply = Reply{OK: true}
			if d.Call.Kind == task.Get && len(row) > 0 && d.Call.End == left {
				d.Reply.Value = row[0]
			} else if d.Call.Kind == task.Get && len(row) > 0 {
				d.Reply.Value = row[len(row)-1]
			}
		}
		if row, ok = done(row, d); !ok {
			return false
		}
	}
	return true
}

// inOrder tells whether this is an order such as Find should tell, asked word by word.
func inOrder(list []Deed, order []int) bool {
	for i, d := range list {
		n := 0
		for _, j := range order {
			if j == i {
				n++
			}
		}
		if n > 1 || n == 0 && d.To >= 0 {
			return false
		}
	}
	for k, i := range order {
		if i < 0 || i >= len(list) {
			return false
		}
		for _, j := range order[k+1:] {
			if list[j].To >= 0 && list[j].To < list[i].From {
				return false
			}
		}
	}
	return inRow(list, order)
}

// anyOrder tells whether one of all rows of numbers, that go on from these, is such an order.
func anyOrder(list []Deed, order []int) bool {
	if inOrder(list, order) {
		return true
	}
	for i := range list {
		if !slices.Contains(order, i) && anyOrder(list, append(slices.Clone(order), i)) {
			return true
		}
	}
	return false
}

// call is one of few values, at whatever end.
func (x *numbers) call() Call {
	return Call{Kind: task.Kind(x.under(2)), End: word.End(x.under(2)), Value: uint64(x.under(3))}
}

// row is calls that may be answered so, one behind the other.
func (x *numbers) row(count int) []Deed {
	var list []Deed
	var row []uint64
	for len(list) < count {
		d := Deed{Call: x.call(), Reply: Reply{OK: x.under(4) > 0, Value: uint64(x.under(3))}}
		if d.Call.Kind == task.Put {
			d.Reply.Value = 0
		}
		if next, ok := done(row, d); ok {
			row, list = next, append(list, d)
		}
	}
	return list
}

// around gives calls that were done one behind the other beginnings and ends around that; some aren't over.
func (x *numbers) around(list []Deed) []Deed {
	for i := range list {
		d := &list[i]
		d.From, d.To = 10*i-x.under(20), 10*i+x.under(20)
		if x.under(4) == 0 && (d.Reply.OK || i == len(list)-1) {
			*d = open(*d, d.From)
		}
	}
	for i := range list {
		j := x.under(len(list))
		list[i], list[j] = list[j], list[i]
	}
	return list
}

// turn turns one thing of one of the deeds.
func (x *numbers) turn(list []Deed) {
	if len(list) == 0 {
		return
	}
	d := &list[x.under(len(list))]
	switch x.under(6) {
	case 0:
		d.Reply.Value = uint64(x.under(3))
	case 1:
		d.Reply.OK = !d.Reply.OK
	case 2:
		d.Call = x.call()
	case 3:
		d.To = d.From + x.under(10)
	case 4:
		d.From = d.To - x.under(10)
	case 5:
		d.To = -1
	}
}

// P15.1: of rows that are legal, and such that were turned in one thing, all is told word by word.
func TestLegalWhatever(t *testing.T) {
	x := numbers(1)
	told := map[bool]int{}
	for range 5000 {
		list := x.row(x.under(16))
		for range x.under(3) {
			x.turn(list)
		}
		var row []uint64
		all := true
		for _, d := range list {
			want, ok := done(row, d)
			got, may := lin.Do(row, d)
			if may != ok || ok && !slices.Equal(got, want) {
				t.Errorf("%v behind %v: %v, %v, want %v, %v", row, d, got, may, want, ok)
			}
			if all = ok; !ok {
				break
			}
			row = want
		}
		legal(t, all, list...)
		told[all]++
	}
	if min(told[false], told[true]) < 500 {
		t.Errorf("too few lists are legal, or aren't: %v", told)
	}
}

// P15.2: where calls were done one behind the other, each within its beginning and its end, an order is found.
func TestFindAround(t *testing.T) {
	x := numbers(2)
	for range 5000 {
		list := x.around(x.row(x.under(10)))
		if order, ok := lin.Find(list); !ok || !inOrder(list, order) {
			t.Errorf("Find of %v: %v, %v", list, order, ok)
		}
	}
}

// P15.2: an order is found where there is one, and nowhere else, by all orders that there might be.
func TestFindWhatever(t *testing.T) {
	x := numbers(3)
	told := map[bool]int{}
	for range 20000 {
		list := x.around(x.row(x.under(7)))
		for range 1 + x.under(4) {
			x.turn(list)
		}
		want := anyOrder(list, nil)
		order, ok := lin.Find(list)
		if ok != want || ok && !inOrder(list, order) || !ok && len(order) > 0 {
			t.Errorf("Find of %v: %v, %v, want %v", list, order, ok, want)
		}
		told[want]++
	}
	if min(told[false], told[true]) < 500 {
		t.Errorf("too few lists have an order, or haven't: %v", told)
	}
}

// yardOf is a new yard of few threads and places.
func (x *numbers) yardOf(t *testing.T) *yard.Yard {
	t.Helper()
	c := lay.Conf{Threads: 1 + x.under(4), Slots: 1 + x.under(3), Source: lay.Source(x.under(5)), Delay: x.under(4)}
	y, e := yard.New(c)
	if e != api.OK {
		t.Fatal(e.Word())
	}
	return y
}

// begins begins a call: a Put at one end, or a Get at the other.
func (x *numbers) begins(t *testing.T, y *yard.Yard, who int, in, out word.End) {
	t.Helper()
	call := Call{Kind: task.Put, End: in, Value: uint64(1 + len(y.Deeds()))}
	if x.under(2) == 0 {
		call = Call{Kind: task.Get, End: out, Start: x.under(50)}
	}
	if e := y.Call(who, call); e != api.OK {
		t.Fatalf("%v: %s", call, e.Word())
	}
}

// P1: at one end it is a stack, from end to end a queue: of whatever is done within each other, stopped anywhere, an
// order is found.
func TestYardFind(t *testing.T) {
	x := numbers(4)
	within := 0
	for i := range 2000 {
		in, out := word.End(i&1), word.End(i>>1&1)
		y := x.yardOf(t)
		for range x.under(500) {
			who := x.under(y.Conf().Threads)
			if !y.Busy(who) && len(y.Deeds()) < lin.MaxFind {
				x.begins(t, y, who, in, out)
			}
			for range 1 + x.under(2)*x.under(9) {
				y.Step(who)
			}
		}
		list := y.Deeds()
		order, ok := lin.Find(list)
		if !ok || !inOrder(list, order) {
			t.Fatalf("%v: %v, %v of %v", y.Conf(), order, ok, list)
		}
		if !slices.IsSorted(order) {
			within++
		}
	}
	if within == 0 {
		t.Error("all was done one behind the other")
	}
}

// P1: calls one behind the other are those of a row with two ends.
func TestYardLegal(t *testing.T) {
	x := numbers(5)
	for range 300 {
		y := x.yardOf(t)
		for range x.under(60) {
			who := x.under(y.Conf().Threads)
			x.begins(t, y, who, word.End(x.under(2)), word.End(x.under(2)))
			for y.Step(who) {
			}
			y.Pass(x.under(3))
		}
		legal(t, true, y.Deeds()...)
	}
}
