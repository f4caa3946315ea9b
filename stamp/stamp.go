// Package stamp is layer 1: see shared/doc/01-stamp.md.
package stamp

import "cmp"

// Top is above all numbers of stamps.
const Top = 1<<24 - 1

// Stamp is an interval of numbers: when something came.
type Stamp struct{ Lo, Hi int }

// Right tells whether a stamp is one.
func (s Stamp) Right() bool { return 0 <= s.Lo && s.Lo <= s.Hi && s.Hi < Top }

// Before tells whether all of a stamp lies beneath all of another one.
func (s Stamp) Before(o Stamp) bool { return s.Hi < o.Lo }

// Apart tells whether one of two lies beneath the other one.
func (s Stamp) Apart(o Stamp) bool { return s.Before(o) || o.Before(s) }

// Compare is the order in which stamps are laid: -1, 0 or 1.
func (s Stamp) Compare(o Stamp) int {
	return cmp.Or(cmp.Compare(s.Lo, o.Lo), cmp.Compare(s.Hi, o.Hi))
}

// Join is the least stamp that covers two.
func (s Stamp) Join(o Stamp) Stamp {
	return Stamp{Lo: min(s.Lo, o.Lo), Hi: max(s.Hi, o.Hi)}
}

// Least is the place of the first of the least stamps; below 0: there is none.
func Least(list ...Stamp) int {
	least := -1
	for i, s := range list {
		if least < 0 || s.Compare(list[least]) < 0 {
			least = i
		}
	}
	return least
}
