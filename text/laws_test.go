package text_test

import (
	"strings"
	"testing"

	"stackyard/api"
	"stackyard/text"
)

// numbers makes numbers by a rule.
type numbers uint64

func (x *numbers) under(n int) int {
	*x = *x*6364136223846793005 + 1442695040888963407
	return int(*x>>33) % n
}

// signs are some, of each length.
func (x *numbers) signs(n int) []rune {
	all := []rune("ab\n\t \x00ñé€⏎⇥\ufffd\uffff😀\U0010ffff")
	list := make([]rune, n)
	for i := range list {
		list[i] = all[x.under(len(all))]
	}
	return list
}

// form is a sign's bytes in so many of them, bit by bit, whether it is the shortest form or not.
func form(sign, size int) string {
	if size == 1 {
		return string([]byte{byte(sign)})
	}
	b := make([]byte, size)
	for i := size - 1; i > 0; i-- {
		b[i] = byte(128 + sign%64)
		sign /= 64
	}
	lead := 256 - 1<<(8-size)
	b[0] = byte(lead + sign)
	return string(b)
}

// least is the least sign that needs so many bytes.
func least(size int) int { return []int{0, 0, 128, 2048, 65536}[size] }

// isSign tells, by the chapter's words, whether a number has a sign of so many bytes.
func isSign(sign, size int) bool {
	if sign < least(size) || size < 4 && sign >= least(size+1) {
		return false
	}
	return sign <= 0x10ffff && (sign < 0xd800 || sign > 0xdfff)
}

// P20.1: of all that four bytes or fewer can tell, signs in their shortest form are Right, and one each.
func TestEachSign(t *testing.T) {
	room := []int{0, 1 << 7, 1 << 11, 1 << 16, 1 << 21}
	for size := 1; size <= 4; size++ {
		for sign := range room[size] {
			s := form(sign, size)
			if text.Right(s) != isSign(sign, size) {
				t.Fatalf("Right of %U in %d bytes is %v", sign, size, text.Right(s))
			}
			if isSign(sign, size) && text.Len(s) != 1 {
				t.Fatalf("%U has %d signs", sign, text.Len(s))
			}
		}
	}
}

// count is how many signs bytes are, sign by sign; -1, if they aren't signs.
func count(s string, forms map[string]bool) int {
	n := 0
	for len(s) > 0 {
		size := 1
		for size <= 4 && (size > len(s) || !forms[s[:size]]) {
			size++
		}
		if size > 4 {
			return -1
		}
		s = s[size:]
		n++
	}
	return n
}

// P20.1: whatever bytes stand behind each other are Right if they are signs, one behind the other.
func TestAllBytes(t *testing.T) {
	forms := map[string]bool{}
	for size := 1; size <= 4; size++ {
		for sign := least(size); sign <= 0x10ffff; sign++ {
			if isSign(sign, size) {
				forms[form(sign, size)] = true
			}
		}
	}
	edges := []byte("\x00\x7f\x80\x8f\x90\x9f\xa0\xbf\xc0\xc1\xc2\xdf\xe0\xe1\xed\xee\xef\xf0\xf1\xf4\xf5\xff")
	list := []string{""}
	for length := 1; length <= 4; length++ {
		var longer []string
		for _, s := range list {
			for _, b := range edges {
				longer = append(longer, s+string([]byte{b}))
			}
		}
		list = longer
		for _, s := range list {
			n := count(s, forms)
			if text.Right(s) != (n >= 0) || n >= 0 && text.Len(s) != n {
				t.Fatalf("%q: Right %v, %d signs, want %d", s, text.Right(s), text.Len(s), n)
			}
		}
	}
}

// P20.2: Insert and Cut are what is done to lists of signs, and each takes back what the other one did.
func TestLists(t *testing.T) {
	x := numbers(20)
	for range 20000 {
		list, more := x.signs(x.under(12)), x.signs(x.under(12))
		s, at := string(list), x.under(len(list)+5)-2
		whole, e := text.Insert(s, at, string(more))
		if at < 0 || at > len(list) {
			if whole != "" || e != api.ErrRange {
				t.Fatalf("%q at %d: %q, %q", s, at, whole, e.Word())
			}
			continue
		}
		if want := string(list[:at]) + string(more) + string(list[at:]); whole != want || e != api.OK {
			t.Fatalf("%q in %q at %d: %q, %q, want %q", string(more), s, at, whole, e.Word(), want)
		}
		left, out, e := text.Cut(whole, at, len(more))
		if left != s || out != string(more) || e != api.OK {
			t.Fatalf("%q without %d at %d: %q, %q, %q", whole, len(more), at, left, out, e.Word())
		}
	}
}

// P20.2: Cut answers at each place and for each number of signs.
func TestEachCut(t *testing.T) {
	x := numbers(21)
	for size := range 9 {
		list := x.signs(size)
		for at := -2; at <= size+2; at++ {
			for n := -2; n <= size+2; n++ {
				left, out, e := text.Cut(string(list), at, n)
				if at < 0 || n < 0 || at+n > size {
					if left != "" || out != "" || e != api.ErrRange {
						t.Fatalf("%q, %d, %d: %q, %q, %q", list, at, n, left, out, e.Word())
					}
					continue
				}
				if e != api.OK || left != string(list[:at])+string(list[at+n:]) || out != string(list[at:at+n]) {
					t.Fatalf("%q, %d, %d: %q, %q, %q", list, at, n, left, out, e.Word())
				}
			}
		}
	}
}

// P20.2: what there is room for hangs on signs alone.
func TestRoom(t *testing.T) {
	x := numbers(22)
	for range 300 {
		a := x.under(api.MaxText + 2)
		b := max(0, api.MaxText-a+x.under(5)-2)
		s, in := string(x.signs(a)), string(x.signs(b))
		want := api.OK
		if a+b > api.MaxText {
			want = api.ErrFull
		}
		whole, e := text.Insert(s, x.under(a+1), in)
		if e != want || e == api.OK && text.Len(whole) != a+b || e != api.OK && whole != "" {
			t.Fatalf("%d in %d: %d signs, %q, want %q", b, a, text.Len(whole), e.Word(), want.Word())
		}
	}
}

// P20.3: Lines has as many signs, and no newline and no tab.
func TestLinesOfAll(t *testing.T) {
	x := numbers(23)
	for range 5000 {
		s := string(x.signs(x.under(30)))
		want := strings.NewReplacer("\n", "\u23ce", "\t", "\u21e5").Replace(s)
		if l := text.Lines(s); l != want || text.Len(l) != text.Len(s) || text.Lines(l) != l {
			t.Fatalf("the Lines of %q are %q, want %q", s, l, want)
		}
	}
}
