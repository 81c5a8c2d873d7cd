package octets_test

import (
	"bytes"
	"math"
	"strings"
	"testing"

	"shardqueue/api"
	"shardqueue/octets"
)

// extremes are arguments at which sums and shifts are prone to overflow.
var extremes = []int{math.MinInt, math.MinInt + 1, -257, -256, -1, 0, 1, 5, 6, 7, 8, 63, 64, 255, 256, api.MaxNumber, 1 << 48, math.MaxInt - 1, math.MaxInt}

// P1.1

func TestPut(t *testing.T) {
	for _, c := range []struct {
		b       []byte
		n, size int
		want    []byte
		e       api.Errno
	}{
		{nil, 258, 3, []byte{0, 1, 2}, api.OK},
		{[]byte{9, 8}, 258, 2, []byte{9, 8, 1, 2}, api.OK},
		{[]byte{}, 0, 1, []byte{0}, api.OK},
		{nil, 0, 6, []byte{0, 0, 0, 0, 0, 0}, api.OK},
		{nil, 0x010203040506, 6, []byte{1, 2, 3, 4, 5, 6}, api.OK},
		{nil, 255, 1, []byte{255}, api.OK},
		{nil, 256, 1, nil, api.ErrRange},
		{nil, 1<<16 - 1, 2, []byte{255, 255}, api.OK},
		{nil, 1 << 16, 2, nil, api.ErrRange},
		{nil, 1<<24 - 1, 3, []byte{255, 255, 255}, api.OK},
		{nil, 1 << 24, 3, nil, api.ErrRange},
		{nil, 1<<32 - 1, 4, []byte{255, 255, 255, 255}, api.OK},
		{nil, 1 << 32, 4, nil, api.ErrRange},
		{nil, 1<<40 - 1, 5, []byte{255, 255, 255, 255, 255}, api.OK},
		{nil, 1 << 40, 5, nil, api.ErrRange},
		{nil, 1<<48 - 1, 6, []byte{255, 255, 255, 255, 255, 255}, api.OK},
		{nil, 1 << 48, 6, nil, api.ErrRange},
		{nil, math.MaxInt, 6, nil, api.ErrRange},
		{[]byte{1}, -1, 1, nil, api.ErrRange},
		{nil, math.MinInt, 6, nil, api.ErrRange},
		{nil, 0, 0, nil, api.ErrRange},
		{nil, 0, 7, nil, api.ErrRange},
		{nil, 0, 8, nil, api.ErrRange},
		{nil, 0, -1, nil, api.ErrRange},
		{nil, 0, math.MinInt, nil, api.ErrRange},
		{nil, 0, math.MaxInt, nil, api.ErrRange},
	} {
		got, e := octets.Put(c.b, c.n, c.size)
		if e != c.e || !bytes.Equal(got, c.want) {
			t.Errorf("Put(%v, %d, %d) = %v, %d; want %v, %d", c.b, c.n, c.size, got, e, c.want, c.e)
		}
	}
}

func TestGet(t *testing.T) {
	b := []byte{1, 2, 3, 4, 5, 6, 255}
	for _, c := range []struct {
		b        []byte
		at, size int
		want     int
		e        api.Errno
	}{
		{b, 0, 1, 1, api.OK},
		{b, 1, 2, 0x0203, api.OK},
		{b, 2, 3, 0x030405, api.OK},
		{b, 0, 6, 0x010203040506, api.OK},
		{b, 1, 6, 0x0203040506FF, api.OK},
		{b, 6, 1, 255, api.OK},
		{b, 2, 6, 0, api.ErrSyntax},
		{b, 6, 2, 0, api.ErrSyntax},
		{b, 7, 1, 0, api.ErrSyntax},
		{b, 8, 1, 0, api.ErrSyntax},
		{b, math.MaxInt, 6, 0, api.ErrSyntax},
		{nil, 0, 1, 0, api.ErrSyntax},
		{[]byte{1, 2}, 0, 6, 0, api.ErrSyntax},
		{b, -1, 1, 0, api.ErrRange},
		{b, math.MinInt, 6, 0, api.ErrRange},
		{b, 0, 0, 0, api.ErrRange},
		{b, 0, 7, 0, api.ErrRange},
		{b, 0, -1, 0, api.ErrRange},
		{b, 0, math.MaxInt, 0, api.ErrRange},
		{b, 0, math.MinInt, 0, api.ErrRange},
		// ErrRange comes before ErrSyntax.
		{nil, -1, 1, 0, api.ErrRange},
		{nil, 9, 0, 0, api.ErrRange},
		{nil, 9, 7, 0, api.ErrRange},
	} {
		got, e := octets.Get(c.b, c.at, c.size)
		if got != c.want || e != c.e {
			t.Errorf("Get(%v, %d, %d) = %d, %d; want %d, %d", c.b, c.at, c.size, got, e, c.want, c.e)
		}
	}
}

// P1.2

func TestPutVar(t *testing.T) {
	for _, c := range []struct {
		b    []byte
		n    int
		want []byte
		e    api.Errno
	}{
		{nil, 0, []byte{0}, api.OK},
		{[]byte{}, 1, []byte{1}, api.OK},
		{nil, 127, []byte{127}, api.OK},
		{nil, 128, []byte{128, 1}, api.OK},
		{nil, 300, []byte{172, 2}, api.OK},
		{[]byte{5, 128}, 300, []byte{5, 128, 172, 2}, api.OK},
		{nil, 1<<14 - 1, []byte{255, 127}, api.OK},
		{nil, 1 << 14, []byte{128, 128, 1}, api.OK},
		{nil, 1<<21 - 1, []byte{255, 255, 127}, api.OK},
		{nil, 1 << 21, []byte{128, 128, 128, 1}, api.OK},
		{nil, 1<<28 - 1, []byte{255, 255, 255, 127}, api.OK},
		{nil, 1 << 28, []byte{128, 128, 128, 128, 1}, api.OK},
		{nil, 1<<35 - 1, []byte{255, 255, 255, 255, 127}, api.OK},
		{nil, 1 << 35, []byte{128, 128, 128, 128, 128, 1}, api.OK},
		{nil, api.MaxNumber - 1, []byte{255, 255, 255, 255, 255, 31}, api.OK},
		{nil, api.MaxNumber, []byte{128, 128, 128, 128, 128, 32}, api.OK},
		{nil, api.MaxNumber + 1, nil, api.ErrRange},
		{nil, math.MaxInt, nil, api.ErrRange},
		{[]byte{5}, -1, nil, api.ErrRange},
		{nil, math.MinInt, nil, api.ErrRange},
	} {
		got, e := octets.PutVar(c.b, c.n)
		if e != c.e || !bytes.Equal(got, c.want) {
			t.Errorf("PutVar(%v, %d) = %v, %d; want %v, %d", c.b, c.n, got, e, c.want, c.e)
		}
	}
}

func TestGetVar(t *testing.T) {
	for _, c := range []struct {
		b       []byte
		at      int
		n, next int
		e       api.Errno
	}{
		{[]byte{0}, 0, 0, 1, api.OK},
		{[]byte{0, 0}, 1, 0, 2, api.OK},
		{[]byte{172, 2}, 0, 300, 2, api.OK},
		{[]byte{172, 2}, 1, 2, 2, api.OK},
		{[]byte{9, 172, 2, 9}, 1, 300, 3, api.OK},
		{[]byte{128, 128, 128, 128, 128, 32, 0}, 0, api.MaxNumber, 6, api.OK},
		// b ends before the last byte.
		{nil, 0, 0, 0, api.ErrSyntax},
		{[]byte{1}, 1, 0, 0, api.ErrSyntax},
		{[]byte{1}, 2, 0, 0, api.ErrSyntax},
		{[]byte{1}, math.MaxInt, 0, 0, api.ErrSyntax},
		{[]byte{128}, 0, 0, 0, api.ErrSyntax},
		{[]byte{1, 172}, 1, 0, 0, api.ErrSyntax},
		{[]byte{128, 128, 128, 128, 128}, 0, 0, 0, api.ErrSyntax},
		{[]byte{128, 128, 128, 128, 128, 128}, 0, 0, 0, api.ErrSyntax},
		// There are more than six bytes.
		{[]byte{128, 128, 128, 128, 128, 128, 0}, 0, 0, 0, api.ErrSyntax},
		{[]byte{129, 128, 128, 128, 128, 128, 1}, 0, 0, 0, api.ErrSyntax},
		{[]byte{129, 128, 128, 128, 128, 128, 128, 128, 128, 1}, 0, 0, 0, api.ErrSyntax},
		// The form is not the shortest one.
		{[]byte{128, 0}, 0, 0, 0, api.ErrSyntax},
		{[]byte{172, 0}, 0, 0, 0, api.ErrSyntax},
		{[]byte{172, 130, 0}, 0, 0, 0, api.ErrSyntax},
		{[]byte{128, 128, 128, 128, 128, 0}, 0, 0, 0, api.ErrSyntax},
		// The number is greater than MaxNumber.
		{[]byte{129, 128, 128, 128, 128, 32}, 0, 0, 0, api.ErrSyntax},
		{[]byte{128, 128, 128, 128, 128, 33}, 0, 0, 0, api.ErrSyntax},
		{[]byte{255, 255, 255, 255, 255, 127}, 0, 0, 0, api.ErrSyntax},
		// ErrRange comes before ErrSyntax.
		{[]byte{1}, -1, 0, 0, api.ErrRange},
		{nil, -1, 0, 0, api.ErrRange},
		{nil, math.MinInt, 0, 0, api.ErrRange},
	} {
		n, next, e := octets.GetVar(c.b, c.at)
		if n != c.n || next != c.next || e != c.e {
			t.Errorf("GetVar(%v, %d) = %d, %d, %d; want %d, %d, %d", c.b, c.at, n, next, e, c.n, c.next, c.e)
		}
	}
}

// Of all forms, GetVar accepts only those that PutVar writes.
func TestGetVarIsStrict(t *testing.T) {
	last := []byte{0, 1, 31, 32, 33, 127}
	going := [][]byte{nil}
	for range 7 {
		var longer [][]byte
		for _, begin := range going {
			for _, octet := range last {
				checkForm(t, append(bytes.Clone(begin), octet))
			}
			for _, octet := range []byte{128, 129, 172, 255} {
				form := append(bytes.Clone(begin), octet)
				checkForm(t, form)
				longer = append(longer, form)
			}
		}
		going = longer
	}
}

func checkForm(t *testing.T, form []byte) {
	t.Helper()
	n, next, e := octets.GetVar(form, 0)
	if e != api.OK {
		return
	}
	if written, _ := octets.PutVar(nil, n); next != len(form) || !bytes.Equal(written, form) {
		t.Errorf("GetVar(%v, 0) = %d, %d, but PutVar writes %v", form, n, next, written)
	}
}

// P1.3

func TestPutText(t *testing.T) {
	long := strings.Repeat("x", 255)
	for _, c := range []struct {
		b    []byte
		s    string
		most int
		want string
		e    api.Errno
	}{
		{nil, "ab", 2, "\x02ab", api.OK},
		{[]byte("z"), "ab", 9, "z\x02ab", api.OK},
		{[]byte{}, "", 0, "\x00", api.OK},
		{nil, "", 255, "\x00", api.OK},
		{nil, "\x00\xff\x80", 3, "\x03\x00\xff\x80", api.OK},
		{nil, "é", 2, "\x02\xc3\xa9", api.OK},
		{nil, long, 255, "\xff" + long, api.OK},
		{[]byte("z"), "abc", 2, "", api.ErrTooLong},
		{nil, "a", 0, "", api.ErrTooLong},
		{nil, "é", 1, "", api.ErrTooLong},
		{nil, long + "x", 255, "", api.ErrTooLong},
		{nil, long, 254, "", api.ErrTooLong},
		{nil, "", 256, "", api.ErrRange},
		{nil, "", -1, "", api.ErrRange},
		{nil, "", math.MaxInt, "", api.ErrRange},
		{nil, "", math.MinInt, "", api.ErrRange},
		// ErrRange comes before ErrTooLong.
		{nil, "abc", -1, "", api.ErrRange},
		{nil, long + "xx", 256, "", api.ErrRange},
	} {
		got, e := octets.PutText(c.b, c.s, c.most)
		if e != c.e || string(got) != c.want {
			t.Errorf("PutText(%v, %q, %d) = %q, %d; want %q, %d", c.b, c.s, c.most, got, e, c.want, c.e)
		}
	}
}

func TestGetText(t *testing.T) {
	long := strings.Repeat("x", 255)
	for _, c := range []struct {
		b        string
		at, most int
		s        string
		next     int
		e        api.Errno
	}{
		{"\x02ab", 0, 2, "ab", 3, api.OK},
		{"z\x02abz", 1, 9, "ab", 4, api.OK},
		{"\x00", 0, 0, "", 1, api.OK},
		{"z\x00", 1, 255, "", 2, api.OK},
		{"\x03\x00\xff\x80", 0, 3, "\x00\xff\x80", 4, api.OK},
		{"\xff" + long, 0, 255, long, 256, api.OK},
		// b ends before the length.
		{"", 0, 2, "", 0, api.ErrSyntax},
		{"\x00", 1, 2, "", 0, api.ErrSyntax},
		{"\x00", 2, 2, "", 0, api.ErrSyntax},
		{"\x00", math.MaxInt, 2, "", 0, api.ErrSyntax},
		// The length is greater than most, whether b has the text or not.
		{"\x03abc", 0, 2, "", 0, api.ErrTooLong},
		{"\x03ab", 0, 2, "", 0, api.ErrTooLong},
		{"\x01a", 0, 0, "", 0, api.ErrTooLong},
		{"\xff" + long, 0, 254, "", 0, api.ErrTooLong},
		// b ends before the end of the text.
		{"\x03ab", 0, 3, "", 0, api.ErrSyntax},
		{"\x01", 0, 1, "", 0, api.ErrSyntax},
		{"z\x02a", 1, 255, "", 0, api.ErrSyntax},
		{"\xff" + long[1:], 0, 255, "", 0, api.ErrSyntax},
		// ErrRange comes before all other errors.
		{"\x03abc", 0, -1, "", 0, api.ErrRange},
		{"\x03abc", 0, 256, "", 0, api.ErrRange},
		{"\x03abc", -1, 2, "", 0, api.ErrRange},
		{"", 0, 256, "", 0, api.ErrRange},
		{"", -1, 0, "", 0, api.ErrRange},
		{"", math.MinInt, math.MaxInt, "", 0, api.ErrRange},
	} {
		s, next, e := octets.GetText([]byte(c.b), c.at, c.most)
		if s != c.s || next != c.next || e != c.e {
			t.Errorf("GetText(%q, %d, %d) = %q, %d, %d; want %q, %d, %d", c.b, c.at, c.most, s, next, e, c.s, c.next, c.e)
		}
	}
}

// P1.4

// samples are the numbers from 0 to limit beside the powers of two.
func samples(limit int) []int {
	seen := map[int]bool{}
	var l []int
	for bit := range 50 {
		for d := -3; d <= 3; d++ {
			n := 1<<bit + d
			if n >= 0 && n <= limit && !seen[n] {
				seen[n] = true
				l = append(l, n)
			}
		}
	}
	return l
}

// surroundings are bytes that stand before and behind a form.
var surroundings = [][]byte{nil, {0}, {1}, {127, 0}, {128}, {255, 255, 255, 255, 255, 255, 255}}

func TestPutIsReadBack(t *testing.T) {
	for size := 1; size <= 6; size++ {
		forms := map[string]int{}
		for _, n := range samples(1<<(8*size) - 1) {
			form, _ := octets.Put(nil, n, size)
			if other, ok := forms[string(form)]; ok {
				t.Errorf("Put writes %d and %d as %v", n, other, form)
			}
			forms[string(form)] = n
			for _, before := range surroundings {
				b, e := octets.Put(before, n, size)
				if e != api.OK || len(b) != len(before)+size {
					t.Fatalf("Put(%v, %d, %d) = %v, %d", before, n, size, b, e)
				}
				for _, behind := range surroundings {
					if got, e := octets.Get(append(bytes.Clone(b), behind...), len(before), size); got != n || e != api.OK {
						t.Errorf("Put(%v, %d, %d) with %v behind is read as %d, %d", before, n, size, behind, got, e)
					}
				}
			}
		}
	}
}

func TestPutVarIsReadBack(t *testing.T) {
	forms := map[string]int{}
	for _, n := range samples(api.MaxNumber) {
		form, _ := octets.PutVar(nil, n)
		if other, ok := forms[string(form)]; ok {
			t.Errorf("PutVar writes %d and %d as %v", n, other, form)
		}
		forms[string(form)] = n
		for _, before := range surroundings {
			b, e := octets.PutVar(before, n)
			if e != api.OK || len(b) != len(before)+len(form) {
				t.Fatalf("PutVar(%v, %d) = %v, %d", before, n, b, e)
			}
			for _, behind := range surroundings {
				got, next, e := octets.GetVar(append(bytes.Clone(b), behind...), len(before))
				if got != n || next != len(b) || e != api.OK {
					t.Errorf("PutVar(%v, %d) with %v behind is read as %d, %d, %d", before, n, behind, got, next, e)
				}
			}
		}
	}
}

func TestPutTextIsReadBack(t *testing.T) {
	for length := range 256 {
		s := strings.Repeat("\x80a", 128)[:length]
		for _, before := range surroundings {
			b, e := octets.PutText(before, s, length)
			if e != api.OK || len(b) != len(before)+1+length {
				t.Fatalf("PutText(%v, %q, %d) = %v, %d", before, s, length, b, e)
			}
			for _, behind := range surroundings {
				got, next, e := octets.GetText(append(bytes.Clone(b), behind...), len(before), length)
				if got != s || next != len(b) || e != api.OK {
					t.Errorf("PutText(%v, %q, %d) with %v behind is read as %q, %d, %d", before, s, length, behind, got, next, e)
				}
			}
		}
	}
}

// Rules

// R1 and R4: every function returns for all arguments, and an error stands alone.
func TestAllArguments(t *testing.T) {
	lists := [][]byte{nil, {}, {0}, {3, 1}, {255}, bytes.Repeat([]byte{255}, 1000)}
	for _, b := range lists {
		for _, x := range extremes {
			got, e := octets.PutVar(b, x)
			checkError(t, e, len(got) == 0)
			n, next, e := octets.GetVar(b, x)
			checkError(t, e, n == 0 && next == 0)
			for _, y := range extremes {
				got, e = octets.Put(b, x, y)
				checkError(t, e, len(got) == 0)
				n, e = octets.Get(b, x, y)
				checkError(t, e, n == 0)
				got, e = octets.PutText(b, string(b), x)
				checkError(t, e, len(got) == 0)
				s, next, e := octets.GetText(b, x, y)
				checkError(t, e, s == "" && next == 0)
			}
		}
	}
}

func checkError(t *testing.T, e api.Errno, zero bool) {
	t.Helper()
	if e != api.OK && !zero {
		t.Errorf("a result beside the error %d is not zero", e)
	}
}

// R2: a result neither changes the argument, nor the room behind it, nor an earlier result from the same argument.
func TestNothingIsChanged(t *testing.T) {
	puts := []func(b []byte, n int) []byte{
		func(b []byte, n int) []byte { r, _ := octets.Put(b, n, 2); return r },
		func(b []byte, n int) []byte { r, _ := octets.PutVar(b, n); return r },
		func(b []byte, n int) []byte { r, _ := octets.PutText(b, strings.Repeat("t", n%5), 9); return r },
	}
	for i, put := range puts {
		whole := []byte{1, 2, 3, 4, 5, 6, 7, 8}
		b := whole[:2]
		first := put(b, 301)
		kept := bytes.Clone(first)
		put(b, 7002)
		put(first, 7002)
		if !bytes.Equal(first, kept) {
			t.Errorf("function %d changed its earlier result %v to %v", i, kept, first)
		}
		if !bytes.Equal(whole, []byte{1, 2, 3, 4, 5, 6, 7, 8}) {
			t.Errorf("function %d changed the memory of its argument: %v", i, whole)
		}
		if again := put(b, 301); !bytes.Equal(again, kept) {
			t.Errorf("function %d returned %v and then %v for equal arguments", i, kept, again)
		}
	}
}

// R3: a nil slice and an empty slice are the same.
func TestEmptyLists(t *testing.T) {
	for _, b := range [][]byte{nil, {}} {
		if got, e := octets.Put(b, 5, 1); !bytes.Equal(got, []byte{5}) || e != api.OK {
			t.Errorf("Put = %v, %d", got, e)
		}
		if got, e := octets.PutVar(b, 5); !bytes.Equal(got, []byte{5}) || e != api.OK {
			t.Errorf("PutVar = %v, %d", got, e)
		}
		if got, e := octets.PutText(b, "", 0); !bytes.Equal(got, []byte{0}) || e != api.OK {
			t.Errorf("PutText = %v, %d", got, e)
		}
		if _, e := octets.Get(b, 0, 1); e != api.ErrSyntax {
			t.Errorf("Get: %d", e)
		}
		if _, _, e := octets.GetVar(b, 0); e != api.ErrSyntax {
			t.Errorf("GetVar: %d", e)
		}
		if _, _, e := octets.GetText(b, 0, 0); e != api.ErrSyntax {
			t.Errorf("GetText: %d", e)
		}
	}
}
