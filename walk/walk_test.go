package walk_test

import (
	"math"
	"slices"
	"testing"

	"shardqueue/api"
	"shardqueue/walk"
)

// numbers are those at which sums and comparisons are prone to go wrong.
var numbers = []int{
	math.MinInt, math.MinInt + 1, -1 << 32, -65537, -65536, -65535, -2, -1, 0, 1, 2, 3, 9, 255, 256, 32767, 32768, 40000,
	65533, 65534, 65535, 65536, 65537, 65538, 131071, 131072, 1<<31 - 1, 1 << 31, 1 << 32, math.MaxInt - 65536, math.MaxInt - 1, math.MaxInt,
}

// checkBegin tests what comes out of Begin, twice (R2).
func checkBegin(t *testing.T, route int, want api.Walk, wanted api.Errno) {
	t.Helper()
	for range 2 {
		if w, e := walk.Begin(route); e != wanted || w != want {
			t.Errorf("Begin(%d) = %+v, %d, want %+v, %d", route, w, e, want, wanted)
		}
	}
}

// checkAdvance tests what comes out of Advance, twice (R2).
func checkAdvance(t *testing.T, w api.Walk, low, high int, want api.Walk, wanted api.Errno) {
	t.Helper()
	for range 2 {
		if next, e := walk.Advance(w, low, high); e != wanted || next != want {
			t.Errorf("Advance(%+v, %d, %d) = %+v, %d, want %+v, %d", w, low, high, next, e, want, wanted)
		}
	}
}

// failsToAdvance tests that Advance returns ErrRange, and nothing else (R4).
func failsToAdvance(t *testing.T, w api.Walk, low, high int) {
	t.Helper()
	checkAdvance(t, w, low, high, api.Walk{}, api.ErrRange)
}

// P16.1

func TestBegin(t *testing.T) {
	checkBegin(t, 40000, api.Walk{Next: 40000}, api.OK)
	checkBegin(t, 0, api.Walk{}, api.OK)
	checkBegin(t, 65535, api.Walk{Next: 65535}, api.OK)
	checkBegin(t, -1, api.Walk{}, api.ErrRange)
	checkBegin(t, 65536, api.Walk{}, api.ErrRange)
}

func TestBeginEachRoute(t *testing.T) {
	for route := range 65536 {
		checkBegin(t, route, api.Walk{Next: route}, api.OK)
	}
}

func TestBeginOutsideTheSpace(t *testing.T) {
	for n := 1; n <= 70000; n++ {
		checkBegin(t, -n, api.Walk{}, api.ErrRange)
		checkBegin(t, 65535+n, api.Walk{}, api.ErrRange)
	}
	for _, route := range numbers {
		if route < 0 || route > 65535 {
			checkBegin(t, route, api.Walk{}, api.ErrRange)
		}
	}
}

func TestAdvance(t *testing.T) {
	for _, c := range []struct {
		w         api.Walk
		low, high int
		want      api.Walk
	}{
		{api.Walk{Next: 40000}, 32768, 65535, api.Walk{Next: 0, Covered: 25536}},
		{api.Walk{Next: 0, Covered: 25536}, 0, 32767, api.Walk{Next: 32768, Covered: 58304}},
		{api.Walk{Next: 32768, Covered: 58304}, 32768, 65535, api.Walk{Next: 0, Covered: 91072}},
		{api.Walk{Next: 0}, 0, 0, api.Walk{Next: 1, Covered: 1}},
		{api.Walk{Next: 0}, 0, 65535, api.Walk{Next: 0, Covered: 65536}},
		{api.Walk{Next: 0, Covered: 65535}, 0, 65535, api.Walk{Next: 0, Covered: 131071}},
		{api.Walk{Next: 65535}, 65535, 65535, api.Walk{Next: 0, Covered: 1}},
		{api.Walk{Next: 65535}, 0, 65535, api.Walk{Next: 0, Covered: 1}},
		{api.Walk{Next: 65535, Covered: 65535}, 65535, 65535, api.Walk{Next: 0, Covered: 65536}},
		{api.Walk{Next: 65534, Covered: 7}, 65534, 65534, api.Walk{Next: 65535, Covered: 8}},
		{api.Walk{Next: 5, Covered: 3}, 5, 5, api.Walk{Next: 6, Covered: 4}},
		{api.Walk{Next: 5, Covered: 3}, 5, 9, api.Walk{Next: 10, Covered: 8}},
		{api.Walk{Next: 9, Covered: 3}, 5, 9, api.Walk{Next: 10, Covered: 4}},
		{api.Walk{Next: 7, Covered: 3}, 5, 9, api.Walk{Next: 10, Covered: 6}},
		{api.Walk{Next: 7, Covered: 65535}, 5, 9, api.Walk{Next: 10, Covered: 65538}},
	} {
		checkAdvance(t, c.w, c.low, c.high, c.want, api.OK)
	}
}

func TestAdvanceErrors(t *testing.T) {
	for _, c := range []struct {
		w         api.Walk
		low, high int
	}{
		{api.Walk{Next: 5}, -1, 9},
		{api.Walk{Next: 5}, 6, 9},
		{api.Walk{Next: 5}, 0, 4},
		{api.Walk{Next: 5}, 9, 0},
		{api.Walk{Next: 5}, 6, 4},
		{api.Walk{Next: 5}, 0, 65536},
		{api.Walk{Next: 65535}, 65535, 65536},
		{api.Walk{Next: 65536}, 0, 65535},
		{api.Walk{Next: 65536}, 0, 65536},
		{api.Walk{Next: -1}, -1, 9},
		{api.Walk{Next: -1}, 0, 9},
		{api.Walk{Next: 5, Covered: -1}, 0, 9},
		{api.Walk{Next: 5, Covered: 65536}, 0, 9},
		{api.Walk{Next: 5, Covered: 65537}, 0, 9},
		{api.Walk{Next: 0, Covered: 91072}, 0, 9},
		{api.Walk{Next: 5, Covered: -1}, 6, 4},
	} {
		failsToAdvance(t, c.w, c.low, c.high)
	}
}

// inOrder reports whether the chapter allows these numbers.
func inOrder(w api.Walk, low, high int) bool {
	return slices.IsSorted([]int{0, low, w.Next, high, 65535}) && slices.IsSorted([]int{0, w.Covered, 65535})
}

// R1, and each fault with each other one.
func TestAdvanceWithAllNumbers(t *testing.T) {
	for _, low := range numbers {
		for _, next := range numbers {
			for _, high := range numbers {
				for _, covered := range numbers {
					w := api.Walk{Next: next, Covered: covered}
					if !inOrder(w, low, high) {
						failsToAdvance(t, w, low, high)
						continue
					}
					want := api.Walk{Next: high + 1, Covered: covered + high - next + 1}
					if high == 65535 {
						want.Next = 0
					}
					checkAdvance(t, w, low, high, want, api.OK)
				}
			}
		}
	}
}

// The routes are counted one by one.
func TestAdvanceWithinSmallSpans(t *testing.T) {
	for _, from := range []int{0, 1, 300, 32760, 65524} {
		for low := from; low < from+12; low++ {
			for high := from; high < from+12; high++ {
				for next := from; next < from+12; next++ {
					w, want := api.Walk{Next: next, Covered: 30}, api.Walk{Next: next, Covered: 30}
					if low > next || next > high {
						failsToAdvance(t, w, low, high)
						continue
					}
					for route := next; route <= high; route++ {
						want.Covered++
						want.Next++
					}
					if want.Next == 65536 {
						want.Next = 0
					}
					checkAdvance(t, w, low, high, want, api.OK)
				}
			}
		}
	}
}

// Each route can be the one that is visited next, and the last one of its shard.
func TestAdvanceFromEachRoute(t *testing.T) {
	for next := range 65536 {
		for _, covered := range []int{0, 1, 40000, 65534, 65535} {
			w := api.Walk{Next: next, Covered: covered}
			checkAdvance(t, w, 0, 65535, api.Walk{Next: 0, Covered: covered + 65536 - next}, api.OK)
			if next < 65535 {
				checkAdvance(t, w, next, next, api.Walk{Next: next + 1, Covered: covered + 1}, api.OK)
				failsToAdvance(t, w, next+1, 65535)
			}
			if next > 0 {
				failsToAdvance(t, w, 0, next-1)
			}
		}
	}
}

// Each number from 0 to 65535 can have been covered, and no other one.
func TestAdvanceWithEachCovered(t *testing.T) {
	for covered := range 65536 {
		checkAdvance(t, api.Walk{Next: 7, Covered: covered}, 5, 9, api.Walk{Next: 10, Covered: covered + 3}, api.OK)
		failsToAdvance(t, api.Walk{Next: 7, Covered: -1 - covered}, 5, 9)
		failsToAdvance(t, api.Walk{Next: 7, Covered: 65536 + covered}, 5, 9)
	}
}

func TestOver(t *testing.T) {
	for _, c := range []struct {
		w    api.Walk
		want bool
	}{
		{api.Walk{}, false},
		{api.Walk{Next: 40000}, false},
		{api.Walk{Next: 40000, Covered: 65535}, false},
		{api.Walk{Next: 40000, Covered: 65536}, true},
		{api.Walk{Next: 65535, Covered: 65535}, false},
		{api.Walk{Next: 65536}, false},
		{api.Walk{Covered: 131071}, true},
		{api.Walk{Covered: -1}, false},
	} {
		if walk.Over(c.w) != c.want {
			t.Errorf("Over(%+v) = %t", c.w, !c.want)
		}
	}
}

// Over looks at Covered alone, whatever it is.
func TestOverWithAllNumbers(t *testing.T) {
	all := slices.Clone(numbers)
	for n := range 200000 {
		all = append(all, n-60000)
	}
	for _, covered := range all {
		for _, next := range numbers {
			if w := (api.Walk{Next: next, Covered: covered}); walk.Over(w) != (covered > 65535) {
				t.Errorf("Over(%+v) = %t", w, !(covered > 65535))
			}
		}
	}
}
