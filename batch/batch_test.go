package batch_test

import (
	"fmt"
	"math"
	"slices"
	"strings"
	"testing"

	"shardqueue/api"
	"shardqueue/batch"
)

// extremes are numbers at which sums and comparisons are prone to go wrong.
var extremes = []int{
	math.MinInt, math.MinInt + 1, -1 << 40, -1 << 32, -1001, -1000, -201, -7, -6, -2, -1, 0, 1, 2, 3, 4, 5, 6, 7, 8, 13, 14, 15, 16, 17,
	199, 200, 201, 255, 256, 257, 999, 1000, 1001, 1 << 31, 1<<32 - 1, 1 << 32, 1<<32 + 1, 1 << 40, 1 << 62, math.MaxInt - 1, math.MaxInt,
}

// setup is that of an arena with three slots.
var setup = api.Setup{Slots: 3, Live: 2, Capacity: 4, Dead: 5, Limit: 2, Clock: 10, NextID: 7, Epoch: 3}

// withSlots returns a setup with a number of slots, which need not be possible.
func withSlots(n int) api.Setup {
	s := setup
	s.Slots = n
	return s
}

// valid returns a valid operation of a kind, with arguments in all of its fields.
func valid(kind int) api.Invocation {
	return api.Invocation{Kind: kind, Home: 1, Max: 3, Visibility: 500, From: 0, To: 2, Bodies: []string{"a", "", "c"}, Tokens: [][]byte{{1, 2}, nil, {3}, make([]byte, 100)}}
}

// field is an argument that is a number.
type field struct {
	name string
	of   func(i *api.Invocation) *int
}

func fields() []field {
	return []field{
		{"Home", func(i *api.Invocation) *int { return &i.Home }},
		{"Max", func(i *api.Invocation) *int { return &i.Max }},
		{"Visibility", func(i *api.Invocation) *int { return &i.Visibility }},
		{"From", func(i *api.Invocation) *int { return &i.From }},
		{"To", func(i *api.Invocation) *int { return &i.To }},
	}
}

// limits returns from where to where the arguments of a kind go, with a number of slots. All that are not in the table are not examined.
func limits(kind, slots int) map[string][2]int {
	last := slots - 1
	return map[int]map[string][2]int{
		2:  {"Home": {0, last}, "Max": {1, 6}, "Visibility": {0, 1000}},
		5:  {"Visibility": {0, 1000}},
		8:  {"Home": {0, last}, "Max": {1, 6}},
		9:  {"From": {0, last}, "To": {0, last}},
		10: {"From": {0, last}, "To": {0, last}},
		11: {"From": {0, last}, "To": {0, last}},
		12: {"From": {0, last}},
		13: {"From": {0, slots}},
		14: {"From": {0, last}},
	}[kind]
}

// rangeOf returns what Validate has to return for an operation with good lists.
func rangeOf(i api.Invocation, slots int) api.Errno {
	l := limits(i.Kind, slots)
	for _, f := range fields() {
		if limit, ok := l[f.name]; ok && (*f.of(&i) < limit[0] || *f.of(&i) > limit[1]) {
			return api.ErrRange
		}
	}
	if 9 <= i.Kind && i.Kind <= 11 && i.From == i.To {
		return api.ErrRange
	}
	return api.OK
}

func validates(t *testing.T, i api.Invocation, s api.Setup, want api.Errno) {
	t.Helper()
	if e := batch.Validate(i, s); e != want {
		t.Errorf("Validate(%+v, %+v) = %d, want %d", i, s, e, want)
	}
}

func text(values ...any) string {
	return fmt.Sprintf("%+v", values)
}

// P17.1

func TestValidate(t *testing.T) {
	long, longest := strings.Repeat("x", 17), strings.Repeat("x", 16)
	for _, c := range []struct {
		i    api.Invocation
		want api.Errno
	}{
		{api.Invocation{}, api.ErrKind},
		{api.Invocation{Kind: -1}, api.ErrKind},
		{api.Invocation{Kind: 15}, api.ErrKind},
		{api.Invocation{Kind: 1}, api.ErrTooLong},
		{api.Invocation{Kind: 1, Bodies: []string{}}, api.ErrTooLong},
		{api.Invocation{Kind: 1, Bodies: []string{""}}, api.OK},
		{api.Invocation{Kind: 1, Bodies: []string{longest, longest, longest, longest, longest, longest}}, api.OK},
		{api.Invocation{Kind: 1, Bodies: []string{longest, longest, longest, longest, longest, long}}, api.ErrTooLong},
		{api.Invocation{Kind: 1, Bodies: make([]string, 7)}, api.ErrTooLong},
		{api.Invocation{Kind: 1, Bodies: []string{"ääääääää"}}, api.OK},
		{api.Invocation{Kind: 1, Bodies: []string{"äääääääää"}}, api.ErrTooLong},
		{api.Invocation{Kind: 1, Tokens: make([][]byte, 1)}, api.ErrTooLong},
		{api.Invocation{Kind: 2, Home: 2, Max: 6, Visibility: 1000}, api.OK},
		{api.Invocation{Kind: 2, Max: 1}, api.OK},
		{api.Invocation{Kind: 2, Home: 3, Max: 1}, api.ErrRange},
		{api.Invocation{Kind: 2, Home: -1, Max: 1}, api.ErrRange},
		{api.Invocation{Kind: 2}, api.ErrRange},
		{api.Invocation{Kind: 2, Max: 7}, api.ErrRange},
		{api.Invocation{Kind: 2, Max: 1, Visibility: -1}, api.ErrRange},
		{api.Invocation{Kind: 2, Max: 1, Visibility: 1001}, api.ErrRange},
		{api.Invocation{Kind: 3}, api.ErrTooLong},
		{api.Invocation{Kind: 3, Tokens: make([][]byte, 6), Visibility: -1}, api.OK},
		{api.Invocation{Kind: 3, Tokens: make([][]byte, 7)}, api.ErrTooLong},
		{api.Invocation{Kind: 4, Tokens: make([][]byte, 1)}, api.OK},
		{api.Invocation{Kind: 4, Bodies: make([]string, 1)}, api.ErrTooLong},
		{api.Invocation{Kind: 5, Visibility: 1001}, api.ErrTooLong},
		{api.Invocation{Kind: 5, Tokens: make([][]byte, 7), Visibility: -1}, api.ErrTooLong},
		{api.Invocation{Kind: 5, Tokens: make([][]byte, 6), Visibility: 1001}, api.ErrRange},
		{api.Invocation{Kind: 5, Tokens: make([][]byte, 6), Visibility: 1000}, api.OK},
		{api.Invocation{Kind: 6, Home: -1, Max: -1, Visibility: -1, From: -1, To: -1}, api.OK},
		{api.Invocation{Kind: 7}, api.OK},
		{api.Invocation{Kind: 8, Home: 2, Max: 6, Visibility: -1}, api.OK},
		{api.Invocation{Kind: 8, Home: 3, Max: 6}, api.ErrRange},
		{api.Invocation{Kind: 8}, api.ErrRange},
		{api.Invocation{Kind: 9, From: 1, To: 1}, api.ErrRange},
		{api.Invocation{Kind: 9, From: 1, To: 2}, api.OK},
		{api.Invocation{Kind: 10, From: 1, To: 3}, api.ErrRange},
		{api.Invocation{Kind: 10, From: 2, To: 0}, api.OK},
		{api.Invocation{Kind: 11, From: -1, To: 0}, api.ErrRange},
		{api.Invocation{Kind: 11, From: 0, To: 1}, api.OK},
		{api.Invocation{Kind: 12, From: 2, To: 2}, api.OK},
		{api.Invocation{Kind: 12, From: 3}, api.ErrRange},
		{api.Invocation{Kind: 13, From: 3}, api.OK},
		{api.Invocation{Kind: 13, From: 4}, api.ErrRange},
		{api.Invocation{Kind: 13, From: -1}, api.ErrRange},
		{api.Invocation{Kind: 14, From: 2}, api.OK},
		{api.Invocation{Kind: 14, From: 3}, api.ErrRange},
	} {
		validates(t, c.i, setup, c.want)
	}
}

// A kind that does not exist is ErrKind, whatever the arguments are.
func TestKinds(t *testing.T) {
	for _, kind := range append(slices.Clone(extremes), 9, 10, 11, 12) {
		want := api.ErrKind
		if 1 <= kind && kind <= 14 {
			want = api.OK
		}
		validates(t, valid(kind), setup, want)
		if want == api.ErrKind {
			validates(t, api.Invocation{Kind: kind}, setup, want)
			validates(t, api.Invocation{Kind: kind, Home: -1, Max: -1, Visibility: -1, From: -1, To: -1, Bodies: make([]string, 7), Tokens: make([][]byte, 7)}, setup, want)
		}
	}
}

// Each number in each argument of each kind, with each number of slots.
func TestRanges(t *testing.T) {
	for kind := 1; kind <= 14; kind++ {
		for _, slots := range []int{3, 4, 5, 6, 7, 1000} {
			for _, f := range fields() {
				for _, n := range extremes {
					i := valid(kind)
					*f.of(&i) = n
					validates(t, i, withSlots(slots), rangeOf(i, slots))
				}
			}
		}
	}
}

// All combinations of numbers at the ends of their ranges.
func TestRangesTogether(t *testing.T) {
	slotNumbers := []int{-1, 0, 1, 2, 3, 4}
	for kind := 1; kind <= 14; kind++ {
		for slots := 1; slots <= 3; slots++ {
			for _, home := range slotNumbers {
				for _, most := range []int{-1, 0, 1, 6, 7} {
					for _, visibility := range []int{-1, 0, 1000, 1001} {
						for _, from := range slotNumbers {
							for _, to := range slotNumbers {
								i := valid(kind)
								i.Home, i.Max, i.Visibility, i.From, i.To = home, most, visibility, from, to
								validates(t, i, withSlots(slots), rangeOf(i, slots))
							}
						}
					}
				}
			}
		}
	}
}

// Validate only asks how many slots there are, and without slots no number is one.
func TestOtherSetups(t *testing.T) {
	for _, slots := range []int{math.MinInt, math.MinInt + 1, -1, 0} {
		for _, n := range extremes {
			for kind := 1; kind <= 14; kind++ {
				want := api.OK
				if slices.Contains([]int{2, 8, 9, 10, 11, 12, 13, 14}, kind) {
					want = api.ErrRange
				}
				if kind == 13 && slots == 0 && n == 0 {
					want = api.OK
				}
				i := valid(kind)
				i.Home, i.From = n, n
				validates(t, i, api.Setup{Slots: slots}, want)
			}
		}
	}
	for kind := 1; kind <= 14; kind++ {
		i := valid(kind)
		i.Home, i.From, i.To = math.MaxInt-1, math.MaxInt-1, math.MaxInt-2
		validates(t, i, api.Setup{Slots: math.MaxInt}, api.OK)
		validates(t, i, api.Setup{Slots: math.MaxInt, Live: -1, Capacity: -1, Dead: -1, Limit: -1, Clock: -1, NextID: -1, Epoch: -1}, api.OK)
	}
}

// The lists of each kind have from 1 to 6 elements, if the kind has a list at all. For OpChange its error comes first.
func TestLengths(t *testing.T) {
	for kind := 1; kind <= 14; kind++ {
		for _, bodies := range []int{0, 1, 2, 3, 4, 5, 6, 7, 8, 255, 256, 257, 1000} {
			for _, tokens := range []int{0, 1, 2, 3, 4, 5, 6, 7, 8, 255, 256, 257, 1000} {
				for _, visibility := range []int{500, -1, 1001} {
					i := valid(kind)
					i.Bodies, i.Tokens, i.Visibility = make([]string, bodies), make([][]byte, tokens), visibility
					want := rangeOf(i, 3)
					if kind == 1 && (bodies < 1 || bodies > 6) || 3 <= kind && kind <= 5 && (tokens < 1 || tokens > 6) {
						want = api.ErrTooLong
					}
					validates(t, i, setup, want)
				}
			}
		}
	}
}

// Each length of a body at each place, for OpSend alone.
func TestBodies(t *testing.T) {
	for kind := 1; kind <= 14; kind++ {
		for bodies := 1; bodies <= 6; bodies++ {
			for place := range bodies {
				for _, length := range []int{0, 1, 15, 16, 17, 18, 255, 256, 1000} {
					i := valid(kind)
					i.Bodies = make([]string, bodies)
					i.Bodies[place] = strings.Repeat("\x00", length)
					want := api.OK
					if kind == 1 && length > 16 {
						want = api.ErrTooLong
					}
					validates(t, i, setup, want)
				}
			}
		}
	}
}

// What is in a token is not examined.
func TestTokens(t *testing.T) {
	for kind := 3; kind <= 5; kind++ {
		for _, length := range []int{0, 1, 15, 16, 17, 1000} {
			i := valid(kind)
			i.Tokens = [][]byte{make([]byte, length), nil}
			validates(t, i, setup, api.OK)
		}
	}
}

// P17.2

func TestEntries(t *testing.T) {
	for _, kind := range append(slices.Clone(extremes), 9, 10, 11, 12) {
		for _, bodies := range []int{0, 1, 2, 5, 6, 7, 1000} {
			for _, tokens := range []int{0, 1, 3, 4, 6, 7, 999} {
				i := api.Invocation{Kind: kind, Bodies: make([]string, bodies), Tokens: make([][]byte, tokens), Home: 8, Max: 9, Visibility: 10, From: 11, To: 12}
				want := 1
				switch {
				case kind == 1:
					want = bodies
				case 3 <= kind && kind <= 5:
					want = tokens
				}
				if n := batch.Entries(i); n != want {
					t.Errorf("Entries(%+v) = %d, want %d", i, n, want)
				}
			}
		}
	}
	if n := batch.Entries(api.Invocation{Kind: api.OpSend, Bodies: []string{"a", "b"}}); n != 2 {
		t.Errorf("Entries of a send with two bodies: %d", n)
	}
}
