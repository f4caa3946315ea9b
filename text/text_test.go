package text_test

import (
	"math"
	"strings"
	"testing"

	"stackyard/api"
	"stackyard/text"
)

// right holds that a text has so many signs.
func right(t *testing.T, s string, size int) {
	t.Helper()
	if !text.Right(s) {
		t.Errorf("%q isn't Right", s)
	}
	if n := text.Len(s); n != size {
		t.Errorf("%q has %d signs, want %d", s, n, size)
	}
}

// wrong holds that bytes are no text, wherever they stand.
func wrong(t *testing.T, s string) {
	t.Helper()
	for _, w := range []string{s, "a" + s, s + "a", "ñ" + s + "€", s + "😀", s + s} {
		if text.Right(w) {
			t.Errorf("%q is Right", w)
		}
	}
}

// inserts holds what one text in another one is.
func inserts(t *testing.T, s string, at int, in, want string) {
	t.Helper()
	if w, e := text.Insert(s, at, in); w != want || e != api.OK {
		t.Errorf("%q in %q at %d: %q, %q, want %q", in, s, at, w, e.Word(), want)
	}
}

// notInserted holds that a text can't stand in another one.
func notInserted(t *testing.T, s string, at int, in string, want api.Errno) {
	t.Helper()
	if w, e := text.Insert(s, at, in); w != "" || e != want {
		t.Errorf("%.20q in %.20q at %d: %.20q, %q, want %q", in, s, at, w, e.Word(), want.Word())
	}
}

// cuts holds what is left of a text, and what was taken out.
func cuts(t *testing.T, s string, at, n int, left, out string) {
	t.Helper()
	if l, o, e := text.Cut(s, at, n); l != left || o != out || e != api.OK {
		t.Errorf("%q without %d at %d: %q, %q, %q, want %q, %q", s, n, at, l, o, e.Word(), left, out)
	}
}

// notCut holds that nothing can be taken out of a text there.
func notCut(t *testing.T, s string, at, n int, want api.Errno) {
	t.Helper()
	if l, o, e := text.Cut(s, at, n); l != "" || o != "" || e != want {
		t.Errorf("%.20q without %d at %d: %.20q, %.20q, %q, want %q", s, n, at, l, o, e.Word(), want.Word())
	}
}

// P20.1: signs of Unicode alone are Right, and Len is how many they are.
func TestRight(t *testing.T) {
	right(t, "", 0)
	right(t, "a", 1)
	right(t, "añb", 3)
	right(t, "\x00\x01\n\t\r\x7f", 6)
	right(t, "ñ€😀", 3)
	right(t, "n\u0303", 2) // a sign, and one that is told above it
	right(t, "👩\u200d🚀", 3)
	right(t, "\ufeff", 1)
	right(t, strings.Repeat("😀", 5000), 5000) // Right knows no MaxText
}

// P20.1: the first and the last sign of each length are Right, and so are those that are none by name: the one for what is unknown, and those that Unicode leaves out for good.
func TestRightEdges(t *testing.T) {
	for _, s := range []string{"\x00", "\x7f", "\xc2\x80", "\xdf\xbf", "\xe0\xa0\x80", "\xed\x9f\xbf", "\xee\x80\x80",
		"\xef\xbf\xbd", "\xef\xbf\xbe", "\xef\xbf\xbf", "\xf0\x90\x80\x80", "\xf4\x8f\xbf\xbf"} {
		right(t, s, 1)
		right(t, s+s, 2)
		right(t, "a"+s+"ñ", 3)
	}
}

// P20.1: bytes that are no signs aren't Right.
func TestNotRight(t *testing.T) {
	wrong(t, "\x80") // none begins so
	wrong(t, "\xbf")
	wrong(t, "\xfe")
	wrong(t, "\xff")
	wrong(t, "\xc3") // what follows is missing
	wrong(t, "\xe2\x82")
	wrong(t, "\xf0\x9f\x98")
	wrong(t, "\xc3\xb1\xb1") // one too many
	wrong(t, "\xc0\x80")     // not the shortest form
	wrong(t, "\xc1\xbf")
	wrong(t, "\xe0\x80\x80")
	wrong(t, "\xe0\x9f\xbf")
	wrong(t, "\xf0\x80\x80\x80")
	wrong(t, "\xf0\x8f\xbf\xbf")
	wrong(t, "\xed\xa0\x80") // U+D800 and U+DFFF
	wrong(t, "\xed\xbf\xbf")
	wrong(t, "\xed\xa0\xbd\xed\xb8\x80") // two such as a pair
	wrong(t, "\xf4\x90\x80\x80")         // above U+10FFFF
	wrong(t, "\xf5\x80\x80\x80")
	wrong(t, "\xf8\x88\x80\x80\x80")
}

// P20.2: Insert lets a text stand ahead of a sign, or behind the last one.
func TestInsert(t *testing.T) {
	inserts(t, "añb", 0, "€", "€añb")
	inserts(t, "añb", 1, "€", "a€ñb")
	inserts(t, "añb", 2, "€", "añ€b")
	inserts(t, "añb", 3, "€", "añb€")
	inserts(t, "añb", 2, "x😀y", "añx😀yb")
	inserts(t, "añb", 2, "", "añb")
	inserts(t, "", 0, "ñ", "ñ")
	inserts(t, "", 0, "", "")
	inserts(t, "\ufffd\x00", 1, "\ufffd", "\ufffd\ufffd\x00")
	inserts(t, "n\u0303", 1, "a", "na\u0303")
	inserts(t, "a\n\tb", 2, "\n", "a\n\n\tb")
}

// P20.2: Insert tells ErrForm of bytes that are no text, whichever of both they are.
func TestInsertForm(t *testing.T) {
	notInserted(t, "a\xff", 0, "b", api.ErrForm)
	notInserted(t, "a", 0, "\xed\xa0\x80", api.ErrForm)
	notInserted(t, "\x80", 0, "\x80", api.ErrForm)
	notInserted(t, "\xc3", 1, "\xb1", api.ErrForm) // both together would be one sign
	notInserted(t, "a\xff", 0, "", api.ErrForm)
	notInserted(t, "", 0, "\xff", api.ErrForm)
}

// P20.2: Insert tells ErrRange where there is no such sign; bytes don't count.
func TestInsertRange(t *testing.T) {
	notInserted(t, "añb", -1, "x", api.ErrRange)
	notInserted(t, "añb", 4, "x", api.ErrRange) // 4 bytes, but 3 signs
	notInserted(t, "añb", 4, "", api.ErrRange)
	notInserted(t, "", 1, "x", api.ErrRange)
	notInserted(t, "", -1, "", api.ErrRange)
	notInserted(t, "a", math.MaxInt, "x", api.ErrRange)
	notInserted(t, "a", math.MinInt, "x", api.ErrRange)
}

// P20.2: Insert tells ErrFull of more than 4000 signs, however many bytes they are.
func TestInsertFull(t *testing.T) {
	long := strings.Repeat("😀", 3999)
	inserts(t, long, 3999, "ñ", long+"ñ")
	inserts(t, "ñ", 0, long, long+"ñ")
	inserts(t, long+"ñ", 0, "", long+"ñ")
	inserts(t, "", 0, long+"ñ", long+"ñ")
	notInserted(t, long, 0, "ab", api.ErrFull)
	notInserted(t, "ab", 2, long, api.ErrFull)
	notInserted(t, long+"ñ", 4000, "a", api.ErrFull)
	notInserted(t, "", 0, long+"ñb", api.ErrFull)
	notInserted(t, long+"ñb", 0, "", api.ErrFull) // one of them alone is too long
}

// P20.2: Insert tells the error that is named first.
func TestInsertFirst(t *testing.T) {
	long := strings.Repeat("a", 4000)
	notInserted(t, "a\xff", 9, "b", api.ErrForm)
	notInserted(t, "a", -1, "\xff", api.ErrForm)
	notInserted(t, long, 0, long+"\xff", api.ErrForm)
	notInserted(t, long, 4001, "b", api.ErrRange)
	notInserted(t, long, -1, "b", api.ErrRange)
	notInserted(t, long+"\xff", 9999, "b", api.ErrForm)
}

// P20.2: Cut takes signs out, from anywhere to anywhere.
func TestCut(t *testing.T) {
	cuts(t, "añb", 1, 1, "ab", "ñ")
	cuts(t, "añb", 0, 0, "añb", "")
	cuts(t, "añb", 0, 1, "ñb", "a")
	cuts(t, "añb", 0, 2, "b", "añ")
	cuts(t, "añb", 0, 3, "", "añb")
	cuts(t, "añb", 1, 0, "añb", "")
	cuts(t, "añb", 1, 2, "a", "ñb")
	cuts(t, "añb", 2, 1, "añ", "b")
	cuts(t, "añb", 3, 0, "añb", "")
	cuts(t, "", 0, 0, "", "")
	cuts(t, "€\ufffd😀\x00", 1, 2, "€\x00", "\ufffd😀")
	cuts(t, "n\u0303", 0, 1, "\u0303", "n")
	long := strings.Repeat("ñ", 5000) // Cut knows no MaxText
	cuts(t, long+"ab", 5000, 1, long+"b", "a")
	cuts(t, long, 0, 5000, "", long)
}

// P20.2: Cut tells ErrForm of bytes that are no text.
func TestCutForm(t *testing.T) {
	notCut(t, "a\xff", 0, 1, api.ErrForm)
	notCut(t, "a\xff", 0, 0, api.ErrForm)
	notCut(t, "\xed\xa0\x80", 0, 0, api.ErrForm)
	notCut(t, "\xc3", -1, -1, api.ErrForm)
	notCut(t, "\xc3", 0, 9, api.ErrForm)
}

// P20.2: Cut tells ErrRange where there aren't so many signs; bytes don't count.
func TestCutRange(t *testing.T) {
	notCut(t, "añb", -1, 1, api.ErrRange)
	notCut(t, "añb", -1, 0, api.ErrRange)
	notCut(t, "añb", 1, -1, api.ErrRange)
	notCut(t, "añb", 3, -1, api.ErrRange)
	notCut(t, "añb", 0, 4, api.ErrRange) // 4 bytes, but 3 signs
	notCut(t, "añb", 2, 2, api.ErrRange)
	notCut(t, "añb", 3, 1, api.ErrRange)
	notCut(t, "añb", 4, 0, api.ErrRange)
	notCut(t, "añb", 5, -2, api.ErrRange)
	notCut(t, "", 0, 1, api.ErrRange)
	notCut(t, "", 1, 0, api.ErrRange)
	notCut(t, "", 1, -1, api.ErrRange)
}

// P20.2: neither is there such a sign where the sum of both wraps round.
func TestCutWraps(t *testing.T) {
	for _, n := range []int{math.MinInt, math.MinInt + 1, math.MaxInt - 1, math.MaxInt} {
		notCut(t, "añb", 0, n, api.ErrRange)
		notCut(t, "añb", 2, n, api.ErrRange)
		notCut(t, "añb", 3, n, api.ErrRange)
		notCut(t, "añb", n, 0, api.ErrRange)
		notCut(t, "añb", n, 2, api.ErrRange)
		notCut(t, "añb", n, n, api.ErrRange)
		notCut(t, "añb", n, -n, api.ErrRange)
	}
}

// P20.3: Lines tells newlines and tabs by signs, and nothing else.
func TestLines(t *testing.T) {
	for _, l := range [][2]string{
		{"", ""},
		{"a\tb\nñ", "a⇥b⏎ñ"},
		{"\n", "\u23ce"},
		{"\t", "\u21e5"},
		{"\n\n\t\t\n", "⏎⏎⇥⇥⏎"},
		{"ñ\n", "ñ⏎"},
		{"\tñ", "⇥ñ"},
		{"\r\n", "\r⏎"},
		{"a b", "a b"},
		{"⏎⇥", "⏎⇥"},
		{"\x00\v\f\x7f\u0085\u2028\u2029\ufffd😀", "\x00\v\f\x7f\u0085\u2028\u2029\ufffd😀"},
	} {
		if s := text.Lines(l[0]); s != l[1] {
			t.Errorf("the Lines of %q are %q, want %q", l[0], s, l[1])
		}
	}
	if s := text.Lines(strings.Repeat("\n\t", 5000)); s != strings.Repeat("⏎⇥", 5000) {
		t.Errorf("the Lines of 10000 signs are %d", text.Len(s))
	}
}

// Rule 1: neither Len nor Lines panics at bytes that are no text.
func TestNoText(t *testing.T) {
	for _, s := range []string{"\xff", "a\xc3", "\xed\xa0\x80", "\xf4\x90\x80\x80\n"} {
		text.Len(s)
		text.Lines(s)
	}
}
