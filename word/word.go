// Package word is layer 2: see shared/doc/02-word.md.
package word

import (
	"stackyard/stamp"
)

// State is what a place is.
type State int

// The states.
const (
	Free State = iota // nothing was in it yet
	Live              // something is in it
	Gone              // what was in it was taken
)

// End is an end of a row.
type End int

// The ends.
const (
	Left End = iota
	Right
)

// MaxGen is how often a place may be used, at most.
const MaxGen = 1<<13 - 1

// The lowest bit of each part of a word that is packed; its State is at bit 0.
const (
	endBit = 2
	genBit = 3
	loBit  = 16
	hiBit  = 40
)

// Masks of the parts whose greatest number has no name.
const (
	stateMask = 3
	endMask   = 1
)

// Word is what a place says of itself.
type Word struct {
	State State
	End   End
	Gen   int
	Stamp stamp.Stamp
}

// Right tells whether a word can be packed. Its stamp needn't be Right: each of its numbers only has to fit.
func (w Word) Right() bool {
	return Free <= w.State && w.State <= Gone &&
		Left <= w.End && w.End <= Right &&
		0 <= w.Gen && w.Gen <= MaxGen &&
		fits(w.Stamp.Lo) && fits(w.Stamp.Hi)
}

func fits(x int) bool { return 0 <= x && x <= stamp.Top }

// Pack is a word as a number; 0, if it can't be packed.
func (w Word) Pack() uint64 {
	if !w.Right() {
		return 0
	}
	return uint64(w.State) |
		uint64(w.End)<<endBit |
		uint64(w.Gen)<<genBit |
		uint64(w.Stamp.Lo)<<loBit |
		uint64(w.Stamp.Hi)<<hiBit
}

// Unpack is the word of a number.
func Unpack(x uint64) Word {
	return Word{
		State: State(x & stateMask),
		End:   End(x >> endBit & endMask),
		Gen:   int(x >> genBit & MaxGen),
		Stamp: stamp.Stamp{
			Lo: int(x >> loBit & stamp.Top),
			Hi: int(x >> hiBit & stamp.Top),
		},
	}
}

// Taken is the word behind what it says being taken.
func (w Word) Taken() Word {
	w.State = Gone
	return w
}

// Next is the word of what is put into the place next.
func (w Word) Next(end End, s stamp.Stamp) Word {
	return Word{State: Live, End: end, Gen: w.Gen + 1, Stamp: s}
}

// Other is the other end.
func (e End) Other() End {
	if e == Left {
		return Right
	}
	return Left
}
