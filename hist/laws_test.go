package hist_test

import (
	"maps"
	"slices"
	"testing"

	"stackyard/api"
	"stackyard/hist"
	"stackyard/lay"
	"stackyard/task"
	"stackyard/word"
	"stackyard/yard"
)

// numbers makes numbers by a rule.
type numbers uint64

func (x *numbers) under(n int) int {
	*x = *x*6364136223846793005 + 1442695040888963407
	return int(*x>>33) % n
}

// whatever is a list of deeds that mostly can't be: of few numbers, so that they often are the same, and now and then
// of an edge.
func (x *numbers) whatever() []Deed {
	number := func() int {
		if x.under(12) == 0 {
			return edges[x.under(len(edges))]
		}
		return x.under(9) - 1
	}
	var list []Deed
	for range x.under(9) {
		list = append(list, Deed{
			Who: x.under(4), From: number(), To: number(),
			Call:  Call{Kind: task.Kind(x.under(4) - 1), Value: uint64(x.under(3))},
			Reply: Reply{OK: x.under(3) > 0, Value: uint64(x.under(3))},
		})
	}
	return list
}

// run is what stands in a yard whose threads do calls within each other, stopped anywhere.
func (x *numbers) run(t *testing.T) *yard.Yard {
	t.Helper()
	c := lay.Conf{Threads: 1 + x.under(4), Slots: 1 + x.under(3), Source: lay.Source(x.under(5)), Delay: x.under(4)}
	y, e := yard.New(c)
	if e != api.OK {
		t.Fatal(e.Word())
	}
	for range x.under(300) {
		who := x.under(c.Threads)
		call := Call{Kind: task.Kind(x.under(2)), End: word.End(x.under(2)), Value: uint64(x.under(5)), Start: x.under(50)}
		if !y.Step(who) && x.under(2) == 0 && y.Call(who, call) != api.OK {
			t.Fatalf("%v isn't begun", call)
		}
	}
	return y
}

// moves are all numbers that Right asks for to be of one alone.
func moves(list []Deed) []int {
	var all []int
	for _, d := range list {
		all = append(all, d.From)
		if d.To >= 0 {
			all = append(all, d.To)
		}
	}
	slices.Sort(all)
	return all
}

// right is what Right should tell, asked word by word.
func right(list []Deed) bool {
	for i, d := range list {
		first := i == 0 && d.From >= 0 || i > 0 && d.From > list[i-1].From
		if !first || d.To >= 0 && d.To <= d.From || !d.Call.Right() {
			return false
		}
		next := slices.IndexFunc(list[i+1:], func(o Deed) bool { return o.Who == d.Who })
		if next >= 0 && !(d.To >= 0 && d.To < list[i+1+next].From) {
			return false
		}
	}
	all := moves(list)
	return len(slices.Compact(slices.Clone(all))) == len(all)
}

// most is what Most should tell, asked word by word.
func most(list []Deed) int {
	greatest := 0
	for _, d := range list {
		n := 0
		for _, o := range list {
			if o.From <= d.From && !(o.To >= 0 && o.To < d.From) {
				n++
			}
		}
		greatest = max(greatest, n)
	}
	return greatest
}

// tally is what Tally should tell, asked value by value.
func tally(list []Deed, values int) map[uint64]int {
	counts := map[uint64]int{}
	for value := range uint64(values) {
		n := 0
		for _, d := range list {
			if d.Call.Kind == task.Put && d.Reply.OK && d.Call.Value == value {
				n++
			}
			if d.Call.Kind != task.Put && d.Reply.OK && d.Reply.Value == value {
				n--
			}
		}
		if n != 0 {
			counts[value] = n
		}
	}
	return counts
}

// holds holds a list's answers against what they should be.
func holds(t *testing.T, list []Deed) {
	t.Helper()
	if got, want := hist.Right(list), right(list); got != want {
		t.Errorf("Right of %v: %v, want %v", list, got, want)
	}
	if got, want := hist.Most(list), most(list); got != want {
		t.Errorf("Most of %v: %d, want %d", list, got, want)
	}
	if got, want := hist.Tally(list), tally(list, 5); !maps.Equal(got, want) {
		t.Errorf("Tally of %v: %v, want %v", list, got, want)
	}
	over := slices.DeleteFunc(slices.Clone(list), func(d Deed) bool { return d.To < 0 })
	if got := hist.Over(list); !slices.Equal(got, over) {
		t.Errorf("Over of %v: %v, want %v", list, got, over)
	}
}

// P14.1, P14.2: of whatever deeds all is told as the chapter says it word by word.
func TestWhatever(t *testing.T) {
	x := numbers(1)
	for range 20000 {
		holds(t, x.whatever())
	}
}

// P14.1: of what was done in a yard, stopped anywhere, the Deeds are Right, and one thread has one call at a time.
func TestYard(t *testing.T) {
	x := numbers(2)
	for range 400 {
		y := x.run(t)
		list := y.Deeds()
		holds(t, list)
		if !hist.Right(list) || hist.Most(list) > y.Conf().Threads {
			t.Errorf("%v: Right %v, Most %d of %v", y.Conf(), hist.Right(list), hist.Most(list), list)
		}
	}
}

// P14.1, P14.2: of what was done in a yard, and was turned in one thing then, all is told word by word, too: much of
// that is Right but for this one thing.
func TestYardTurned(t *testing.T) {
	x := numbers(3)
	told := [2]int{}
	for range 4000 {
		list := x.run(t).Deeds()
		if len(list) == 0 {
			continue
		}
		d := &list[x.under(len(list))]
		other := list[x.under(len(list))]
		switch x.under(6) {
		case 0:
			d.From = []int{other.From, other.To, d.From - 1, d.From + 1}[x.under(4)]
		case 1:
			d.To = []int{other.From, other.To, d.From, -1}[x.under(4)]
		case 2:
			d.Who = other.Who
		case 3:
			d.Call.Kind = task.Kind(x.under(4) - 1)
		case 4:
			d.Call.End = word.End(x.under(4) - 1)
		case 5:
			i := x.under(len(list))
			list[0], list[i] = list[i], list[0]
		}
		holds(t, list)
		if hist.Right(list) {
			told[1]++
		} else {
			told[0]++
		}
	}
	if min(told[0], told[1]) < 500 {
		t.Errorf("too few lists are Right, or aren't: %v", told)
	}
}

// P14.2: behind all calls of a yard the Tally is what is in its places.
func TestYardTally(t *testing.T) {
	x := numbers(4)
	in := 0
	for range 400 {
		y := x.run(t)
		for who := range y.Conf().Threads {
			for y.Step(who) {
			}
		}
		want := map[uint64]int{}
		values := y.Values()
		for slot, w := range y.Words() {
			if word.Unpack(w).State == word.Live {
				want[values[slot]]++
				in++
			}
		}
		if got := hist.Tally(y.Deeds()); !maps.Equal(got, want) {
			t.Errorf("Tally %v, want %v", got, want)
		}
		if len(hist.Over(y.Deeds())) != len(y.Deeds()) {
			t.Error("all is over, and Over tells less")
		}
	}
	if in == 0 {
		t.Error("nothing was in")
	}
}
