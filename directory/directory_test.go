package directory_test

import (
	"math"
	"slices"
	"testing"

	"shardqueue/api"
	"shardqueue/directory"
)

// extremes are numbers at which sums and comparisons are prone to go wrong.
var extremes = []int{math.MinInt, math.MinInt + 1, -65536, -2, -1, 0, 1, 2, 5, 6, 7, 65534, 65535, 65536, 65537, 1 << 32, api.MaxNumber, api.MaxNumber + 1, math.MaxInt - 1, math.MaxInt}

// split and merge are the two kinds of changes.
func split(from, to, mid int) api.Edit {
	return api.Edit{Kind: api.EditSplit, From: from, To: to, Mid: mid}
}

func merge(from, to int) api.Edit {
	return api.Edit{Kind: api.EditMerge, From: from, To: to}
}

// spans returns spans with these shards, of which each one but the last ends at a multiple of 100.
func spans(shards ...int) []api.Span {
	var l []api.Span
	for i, shard := range shards {
		l = append(l, api.Span{Low: i*100 + min(i, 1), High: i*100 + 100, Shard: shard})
	}
	if len(l) > 0 {
		l[len(l)-1].High = 65535
	}
	return l
}

// dir returns a directory with the Version 7.
func dir(l []api.Span, forward ...int) api.Directory {
	return api.Directory{Version: 7, L: l, Forward: forward}
}

// usual has four spans, whose shards are not in order; the slot 1 leads over 4 to 3, and 6 slots are there.
func usual() api.Directory {
	return dir([]api.Span{{Low: 0, High: 9, Shard: 5}, {Low: 10, High: 10, Shard: 3}, {Low: 11, High: 40000, Shard: 0}, {Low: 40001, High: 65535, Shard: 2}}, -1, 4, -1, -1, 3, -1)
}

func clone(d api.Directory) api.Directory {
	return api.Directory{Version: d.Version, L: slices.Clone(d.L), Forward: slices.Clone(d.Forward)}
}

func same(a, b api.Directory) bool {
	return a.Version == b.Version && slices.Equal(a.L, b.L) && slices.Equal(a.Forward, b.Forward)
}

func isEmpty(d api.Directory) bool {
	return same(d, api.Directory{})
}

// validates tests what Validate returns, and that nothing is found in a directory that is not valid.
func validates(t *testing.T, name string, d api.Directory, want api.Errno) {
	t.Helper()
	if e := directory.Validate(d); e != want {
		t.Errorf("%s: Validate(%+v) = %d, want %d", name, d, e, want)
	}
	if want == api.OK {
		return
	}
	for n := -1; n <= 6; n++ {
		owner, home := directory.Owner(d, n), directory.Home(d, n)
		span, ok := directory.Span(d, n)
		if owner != -1 || home != -1 || ok || span != (api.Span{}) {
			t.Errorf("%s: %d has the owner %d, the home %d and the span %+v, %t in %+v", name, n, owner, home, span, ok, d)
		}
	}
	failsToApply(t, d, split(0, 1, 5), want)
}

// applies tests what Apply returns if it succeeds.
func applies(t *testing.T, d api.Directory, e api.Edit, want api.Directory) {
	t.Helper()
	if got, err := directory.Apply(d, e); err != api.OK || !same(got, want) {
		t.Errorf("Apply(%+v, %+v) = %+v, %d, want %+v", d, e, got, err, want)
	}
}

// failsToApply tests that Apply returns an error, and nothing else.
func failsToApply(t *testing.T, d api.Directory, e api.Edit, want api.Errno) {
	t.Helper()
	if got, err := directory.Apply(d, e); err != want || !isEmpty(got) {
		t.Errorf("Apply(%+v, %+v) = %+v, %d, want %d", d, e, got, err, want)
	}
}

// P10.1

// The example of the chapter.
func TestExample(t *testing.T) {
	want := api.Directory{Version: 1, L: []api.Span{{Low: 0, High: 32767, Shard: 0}, {Low: 32768, High: 65535, Shard: 1}}, Forward: []int{-1, -1, -1}}
	if d, e := directory.New(3, 2); e != api.OK || !same(d, want) {
		t.Errorf("New(3, 2) = %+v, %d", d, e)
	}
}

func TestNew(t *testing.T) {
	highs := [][]int{
		{65535},
		{32767, 65535},
		{21844, 43689, 65535},
		{16383, 32767, 49151, 65535},
		{13106, 26213, 39320, 52427, 65535},
		{10921, 21844, 32767, 43689, 54612, 65535},
	}
	for slots := 1; slots <= 6; slots++ {
		for live := 1; live <= slots; live++ {
			want := api.Directory{Version: 1, Forward: []int{-1, -1, -1, -1, -1, -1}[:slots]}
			low := 0
			for i, high := range highs[live-1] {
				want.L = append(want.L, api.Span{Low: low, High: high, Shard: i})
				low = high + 1
			}
			d, e := directory.New(slots, live)
			if e != api.OK || !same(d, want) {
				t.Errorf("New(%d, %d) = %+v, %d, want %+v", slots, live, d, e, want)
			}
			validates(t, "new", d, api.OK)
		}
	}
}

func TestNewOutOfRange(t *testing.T) {
	numbers := append([]int{-7, -6, -3, 3, 4, 8, 12, 1000}, extremes...)
	for _, slots := range numbers {
		for _, live := range numbers {
			if 1 <= live && live <= slots && slots <= 6 {
				continue
			}
			if d, e := directory.New(slots, live); e != api.ErrRange || !isEmpty(d) {
				t.Errorf("New(%d, %d) = %+v, %d, want %d", slots, live, d, e, api.ErrRange)
			}
		}
	}
}

// P10.2

// broken is a directory that is not valid, with its error.
type broken struct {
	name string
	d    api.Directory
	want api.Errno
}

func brokenDirectories() []broken {
	whole := []api.Span{{Low: 0, High: 65535, Shard: 0}}
	all := []broken{
		{"zero", api.Directory{}, api.ErrRange},
		{"no version", api.Directory{L: whole, Forward: []int{-1}}, api.ErrRange},
		{"a version below 0", api.Directory{Version: -1, L: whole, Forward: []int{-1}}, api.ErrRange},
		{"a version that is too great", api.Directory{Version: 1<<40 + 1, L: whole, Forward: []int{-1}}, api.ErrRange},
		{"no slot", dir(whole), api.ErrRange},
		{"7 slots", dir(whole, -1, -1, -1, -1, -1, -1, -1), api.ErrRange},
		{"1000 slots", dir(whole, slices.Repeat([]int{-1}, 1000)...), api.ErrRange},

		{"no span", dir(nil, -1), api.ErrState},
		{"an empty list of spans", dir([]api.Span{}, -1, -1), api.ErrState},
		{"the first span begins at 1", dir([]api.Span{{Low: 1, High: 65535}}, -1), api.ErrState},
		{"the first span begins before 0", dir([]api.Span{{Low: -1, High: 65535}}, -1), api.ErrState},
		{"the last span ends early", dir([]api.Span{{Low: 0, High: 65534}}, -1), api.ErrState},
		{"the last span ends late", dir([]api.Span{{Low: 0, High: 65536}}, -1), api.ErrState},
		{"a gap", dir([]api.Span{{High: 9}, {Low: 11, High: 65535, Shard: 1}}, -1, -1), api.ErrState},
		{"a route twice", dir([]api.Span{{High: 9}, {Low: 9, High: 65535, Shard: 1}}, -1, -1), api.ErrState},
		{"a second span from 0 on", dir([]api.Span{{High: 9}, {Low: 0, High: 65535, Shard: 1}}, -1, -1), api.ErrState},
		{"the first span has no route", dir([]api.Span{{Low: 0, High: -1}, {Low: 0, High: 65535, Shard: 1}}, -1, -1), api.ErrState},
		{"a span has no route", dir([]api.Span{{High: 9}, {Low: 10, High: 9, Shard: 1}, {Low: 10, High: 65535, Shard: 2}}, -1, -1, -1), api.ErrState},
		{"the last span has no route", dir([]api.Span{{High: 65535}, {Low: 65536, High: 65535, Shard: 1}}, -1, -1), api.ErrState},
		{"a span behind the last route", dir([]api.Span{{High: 65535}, {Low: 65536, High: 65536, Shard: 1}}, -1, -1), api.ErrState},
		{"a span that goes back", dir([]api.Span{{High: 70000}, {Low: 70001, High: 65535, Shard: 1}}, -1, -1), api.ErrState},
		{"spans in the wrong order", dir([]api.Span{{Low: 10, High: 65535}, {High: 9, Shard: 1}}, -1, -1), api.ErrState},
		{"a sum that overflows", dir([]api.Span{{High: math.MaxInt}, {Low: math.MinInt, High: 65535, Shard: 1}}, -1, -1), api.ErrState},

		{"a shard below 0", dir([]api.Span{{High: 65535, Shard: -1}}, -1), api.ErrMissing},
		{"a shard that is no slot", dir([]api.Span{{High: 65535, Shard: 1}}, -1), api.ErrMissing},
		{"a second shard that is no slot", dir(spans(0, 2), -1, -1), api.ErrMissing},
		{"more spans than slots", dir(spans(0, 1, 2, 3, 4, 5, 6), -1, -1, -1, -1, -1, -1), api.ErrMissing},

		{"the same shard twice", dir(spans(0, 0), -1), api.ErrDuplicate},
		{"the same shard at both ends", dir(spans(1, 2, 0, 1), -1, -1, -1), api.ErrDuplicate},
		{"the same shard at the end", dir(spans(5, 1, 0, 2, 2), -1, -1, -1, -1, -1, -1), api.ErrDuplicate},
		{"more spans than slots, all with shards", dir(spans(0, 1, 2, 3, 4, 5, 0), -1, -1, -1, -1, -1, -1), api.ErrDuplicate},
		{"1000 spans", dir(spans(slices.Repeat([]int{0}, 600)...), -1), api.ErrDuplicate},

		{"a slot with a span leads to itself", dir(whole, 0), api.ErrState},
		{"a slot with a span leads to another one", dir(whole, 1, -1), api.ErrState},
		{"a slot with a span leads to another one with a span", dir(spans(0, 1), -1, 0), api.ErrState},
		{"a slot with a span leads to no slot", dir(whole, 1), api.ErrState},
		{"a slot with a span leads below -1", dir(whole, -2), api.ErrState},
		{"a slot leads to itself", dir(whole, -1, 1), api.ErrState},
		{"a slot leads below -1", dir(whole, -1, -2), api.ErrState},
		{"a slot leads to the number of slots", dir(whole, -1, 2), api.ErrState},
		{"a slot leads over another one to no slot", dir(whole, -1, 2, 3), api.ErrState},
		{"two slots lead to each other", dir(whole, -1, 2, 1), api.ErrState},
		{"a slot leads into a circle", dir(whole, -1, 2, 3, 2), api.ErrState},
		{"a circle of three", dir(whole, -1, 2, 3, 1, 0), api.ErrState},
		{"a circle of five", dir(whole, -1, 2, 3, 4, 5, 1), api.ErrState},
		{"a circle behind good ways", dir(spans(1), 1, -1, -1, 0, 5, 4), api.ErrState},
	}
	for _, n := range []int{math.MinInt, math.MinInt + 1, 1 << 62, math.MaxInt - 1, math.MaxInt} {
		all = append(all,
			broken{"an extreme version", api.Directory{Version: n, L: whole, Forward: []int{-1}}, api.ErrRange},
			broken{"an extreme first route", dir([]api.Span{{Low: n, High: 65535}}, -1), api.ErrState},
			broken{"an extreme last route", dir([]api.Span{{High: n}}, -1), api.ErrState},
			broken{"an extreme end", dir([]api.Span{{High: n}, {Low: n + 1, High: 65535, Shard: 1}}, -1, -1), api.ErrState},
			broken{"an extreme shard", dir([]api.Span{{High: 65535, Shard: n}}, -1), api.ErrMissing},
			broken{"an extreme forward", dir(whole, -1, n), api.ErrState},
			broken{"an extreme forward of a slot with a span", dir(whole, n), api.ErrState})
	}
	return all
}

func TestValidateBroken(t *testing.T) {
	for _, c := range brokenDirectories() {
		validates(t, c.name, c.d, c.want)
	}
}

func TestValidateGood(t *testing.T) {
	whole := []api.Span{{Low: 0, High: 65535, Shard: 0}}
	for _, c := range []struct {
		name string
		d    api.Directory
	}{
		{"the least", api.Directory{Version: 1, L: whole, Forward: []int{-1}}},
		{"the greatest version", api.Directory{Version: 1 << 40, L: whole, Forward: []int{-1}}},
		{"6 slots", dir(whole, -1, -1, -1, -1, -1, -1)},
		{"6 spans", dir(spans(3, 1, 5, 0, 4, 2), -1, -1, -1, -1, -1, -1)},
		{"the last shard", dir(spans(5), 5, 5, 5, 5, 5, -1)},
		{"a span of one route at each end", dir([]api.Span{{Shard: 2}, {Low: 1, High: 65534, Shard: 1}, {Low: 65535, High: 65535}}, -1, -1, -1)},
		{"ways over all slots", dir(spans(5), 1, 2, 3, 4, 5, -1)},
		{"ways back over all slots", dir(whole, -1, 0, 1, 2, 3, 4)},
		{"a way that ends at a slot without a span", dir(whole, -1, 2, -1)},
		{"ways over all slots that end at one without a span", dir(spans(0), -1, 2, 3, 4, 5, -1)},
		{"many ways", usual()},
	} {
		validates(t, c.name, c.d, api.OK)
	}
}

// fault is something that is wrong with a directory that was like usual, at a place of its own.
type fault struct {
	name  string
	want  api.Errno
	spoil func(d *api.Directory)
}

// faults stand in the order in which they are examined.
var faults = []fault{
	{"version", api.ErrRange, func(d *api.Directory) { d.Version = 0 }},
	{"slots", api.ErrRange, func(d *api.Directory) { d.Forward = append(d.Forward, -1) }},
	{"begin", api.ErrState, func(d *api.Directory) { d.L[0].Low = 1 }},
	{"gap", api.ErrState, func(d *api.Directory) { d.L[2].Low++ }},
	{"end", api.ErrState, func(d *api.Directory) { d.L[3].High-- }},
	{"missing", api.ErrMissing, func(d *api.Directory) { d.L[0].Shard = 9 }},
	{"below 0", api.ErrMissing, func(d *api.Directory) { d.L[3].Shard = -1 }},
	{"duplicate", api.ErrDuplicate, func(d *api.Directory) { d.L[1].Shard = d.L[2].Shard }},
	{"live", api.ErrState, func(d *api.Directory) { d.Forward[0] = 1 }},
	{"forward", api.ErrState, func(d *api.Directory) { d.Forward[1] = 9 }},
	{"circle", api.ErrState, func(d *api.Directory) { d.Forward[4] = 4 }},
}

// spoiled returns usual with a set of faults, and its error.
func spoiled(set int) (d api.Directory, name string, want api.Errno) {
	d = usual()
	for i, f := range faults {
		if set>>i&1 == 0 {
			continue
		}
		f.spoil(&d)
		name += f.name + ", "
		if want == api.OK {
			want = f.want
		}
	}
	return d, name, want
}

// The first error is that of the first fault, whatever else is wrong.
func TestOrderOfErrors(t *testing.T) {
	for set := range 1 << len(faults) {
		d, name, want := spoiled(set)
		validates(t, name, d, want)
	}
}

func TestVersion(t *testing.T) {
	for _, n := range append([]int{3, 100, 1<<40 - 1}, extremes...) {
		d := usual()
		d.Version = n
		want := api.ErrRange
		if n >= 1 && n <= 1<<40 {
			want = api.OK
		}
		validates(t, "version", d, want)
	}
}

// Up to three spans with all kinds of ends are examined.
func TestSpans(t *testing.T) {
	ends := []int{math.MinInt, -1, 0, 1, 9, 10, 65534, 65535, 65536, math.MaxInt}
	var one []api.Span
	for _, low := range ends {
		for _, high := range ends {
			one = append(one, api.Span{Low: low, High: high})
		}
	}
	for _, first := range one {
		checkSpans(t, first)
		for _, second := range one {
			second.Shard = 1
			checkSpans(t, first, second)
			for _, third := range one {
				third.Shard = 2
				checkSpans(t, first, second, third)
			}
		}
	}
}

// checkSpans tests whether Validate accepts spans, as far as their routes are concerned.
func checkSpans(t *testing.T, l ...api.Span) {
	t.Helper()
	want := api.OK
	for i, s := range l {
		if s.Low < 0 || s.High > 65535 || s.High < s.Low || i > 0 && s.Low-l[i-1].High != 1 {
			want = api.ErrState
		}
	}
	if l[0].Low != 0 || l[len(l)-1].High != 65535 {
		want = api.ErrState
	}
	if e := directory.Validate(dir(l, -1, -1, -1)); e != want {
		t.Errorf("Validate of the spans %+v = %d, want %d", l, e, want)
	}
}

// lists calls f with each list of so many numbers from low to high.
func lists(size, low, high int, f func(l []int)) {
	if size == 0 {
		f(nil)
		return
	}
	lists(size-1, low, high, func(l []int) {
		for n := low; n <= high; n++ {
			f(append(slices.Clip(l), n))
		}
	})
}

// modelSlots returns the error of shards and forwards.
func modelSlots(shards, forward []int) api.Errno {
	slots := len(forward)
	for _, s := range shards {
		if s < 0 || s >= slots {
			return api.ErrMissing
		}
	}
	if len(slices.Compact(slices.Sorted(slices.Values(shards)))) < len(shards) {
		return api.ErrDuplicate
	}
	for slot, next := range forward {
		if next < -1 || next >= slots || next != -1 && slices.Contains(shards, slot) {
			return api.ErrState
		}
	}
	// Without a circle, the slots that lead nowhere can be taken away until none is left.
	rest := map[int]bool{}
	for slot := range forward {
		rest[slot] = true
	}
	for range forward {
		for slot, next := range forward {
			if !rest[next] {
				delete(rest, slot)
			}
		}
	}
	if len(rest) > 0 {
		return api.ErrState
	}
	return api.OK
}

// Every list of up to three shards with all forwards of up to three slots, and all of four slots with up to two shards.
func TestShardsAndForwards(t *testing.T) {
	for slots := 1; slots <= 4; slots++ {
		for size := 1; size <= min(3, 6-slots); size++ {
			lists(size, -1, slots, func(shards []int) {
				l := spans(shards...)
				lists(slots, -2, slots, func(forward []int) {
					want := modelSlots(shards, forward)
					if e := directory.Validate(dir(l, forward...)); e != want {
						t.Errorf("Validate with the shards %v and the forwards %v = %d, want %d", shards, forward, e, want)
					}
				})
			})
		}
	}
}

// All forwards of five and six slots.
func TestLongForwards(t *testing.T) {
	for slots := 5; slots <= 6; slots++ {
		for _, shards := range [][]int{{0}, {2, 4}} {
			l := spans(shards...)
			lists(slots, -1, slots-1, func(forward []int) {
				want := modelSlots(shards, forward)
				if e := directory.Validate(dir(l, forward...)); e != want {
					t.Errorf("Validate with the shards %v and the forwards %v = %d, want %d", shards, forward, e, want)
				}
			})
		}
	}
}

// P10.3

func TestOwner(t *testing.T) {
	for route := range 65536 {
		want := 2
		switch {
		case route < 10:
			want = 5
		case route < 11:
			want = 3
		case route < 40001:
			want = 0
		}
		if got := directory.Owner(usual(), route); got != want {
			t.Errorf("Owner of %d = %d, want %d", route, got, want)
		}
	}
	for slots := 1; slots <= 6; slots++ {
		for live := 1; live <= slots; live++ {
			d, _ := directory.New(slots, live)
			for i, s := range d.L {
				for _, route := range []int{s.Low, s.Low + 1, (s.Low + s.High) / 2, s.High - 1, s.High} {
					if got := directory.Owner(d, route); got != i {
						t.Errorf("Owner(New(%d, %d), %d) = %d, want %d", slots, live, route, got, i)
					}
				}
			}
		}
	}
	for _, route := range extremes {
		if got := directory.Owner(usual(), route); (route < 0 || route > 65535) && got != -1 {
			t.Errorf("Owner of %d = %d", route, got)
		}
	}
}

func TestSpan(t *testing.T) {
	want := map[int]api.Span{5: {Low: 0, High: 9, Shard: 5}, 3: {Low: 10, High: 10, Shard: 3}, 0: {Low: 11, High: 40000, Shard: 0}, 2: {Low: 40001, High: 65535, Shard: 2}}
	for _, slot := range append([]int{3, 4}, extremes...) {
		w, wanted := want[slot]
		if s, ok := directory.Span(usual(), slot); ok != wanted || s != w {
			t.Errorf("Span of %d = %+v, %t, want %+v, %t", slot, s, ok, w, wanted)
		}
	}
}

func TestHome(t *testing.T) {
	want := map[int]int{0: 0, 1: 3, 2: 2, 3: 3, 4: 3, 5: 5}
	for _, slot := range append([]int{3, 4}, extremes...) {
		w, ok := want[slot]
		if !ok {
			w = -1
		}
		if got := directory.Home(usual(), slot); got != w {
			t.Errorf("Home of %d = %d, want %d", slot, got, w)
		}
	}
}

// homes tests the homes of all slots, and of the numbers beside them.
func homes(t *testing.T, d api.Directory, want ...int) {
	t.Helper()
	for slot, w := range want {
		if got := directory.Home(d, slot); got != w {
			t.Errorf("Home(%+v, %d) = %d, want %d", d, slot, got, w)
		}
	}
	for _, slot := range []int{-2, -1, len(d.Forward), len(d.Forward) + 1} {
		if got := directory.Home(d, slot); got != -1 {
			t.Errorf("Home(%+v, %d) = %d, want -1", d, slot, got)
		}
	}
}

func TestHomeOverOtherSlots(t *testing.T) {
	homes(t, dir(spans(5), 1, 2, 3, 4, 5, -1), 5, 5, 5, 5, 5, 5)
	homes(t, dir(spans(0), -1, 0, 1, 2, 3, 4), 0, 0, 0, 0, 0, 0)
	homes(t, dir(spans(4, 2), 2, 0, -1, 4, -1, -1), 2, 2, 2, 4, 4, -1)
	homes(t, dir(spans(0), -1, 2, -1), 0, -1, -1)
	homes(t, dir(spans(3), 1, 2, -1, -1), -1, -1, -1, 3)
	homes(t, dir(spans(1, 0), -1, -1, 1), 0, 1, 1)
	homes(t, dir(spans(0), -1), 0)
}

// With all forwards of up to five slots, a home is the end of the way, if that has a span.
func TestAllHomes(t *testing.T) {
	for slots := 1; slots <= 5; slots++ {
		for _, shards := range [][]int{{slots - 1}, {slots / 2, 0}} {
			lists(slots, -1, slots-1, func(forward []int) {
				if modelSlots(shards, forward) != api.OK {
					return
				}
				want := make([]int, slots)
				for slot := range want {
					end := slot
					for forward[end] != -1 {
						end = forward[end]
					}
					want[slot] = -1
					if slices.Contains(shards, end) {
						want[slot] = end
					}
				}
				homes(t, dir(spans(shards...), forward...), want...)
			})
		}
	}
}

// P10.4

func TestSplit(t *testing.T) {
	d := usual()
	applies(t, d, split(5, 1, 4), api.Directory{Version: 8, L: []api.Span{{Low: 0, High: 4, Shard: 5}, {Low: 5, High: 9, Shard: 1}, d.L[1], d.L[2], d.L[3]}, Forward: []int{-1, -1, -1, -1, 3, -1}})
	applies(t, d, split(0, 4, 11), api.Directory{Version: 8, L: []api.Span{d.L[0], d.L[1], {Low: 11, High: 11, Shard: 0}, {Low: 12, High: 40000, Shard: 4}, d.L[3]}, Forward: []int{-1, 4, -1, -1, -1, -1}})
	applies(t, d, split(2, 4, 65534), api.Directory{Version: 8, L: []api.Span{d.L[0], d.L[1], d.L[2], {Low: 40001, High: 65534, Shard: 2}, {Low: 65535, High: 65535, Shard: 4}}, Forward: []int{-1, 4, -1, -1, -1, -1}})
	applies(t, dir(spans(0), -1, -1), split(0, 1, 0), api.Directory{Version: 8, L: []api.Span{{Low: 0, High: 0, Shard: 0}, {Low: 1, High: 65535, Shard: 1}}, Forward: []int{-1, -1}})
	applies(t, dir(spans(1), 1, -1), split(1, 0, 65534), api.Directory{Version: 8, L: []api.Span{{Low: 0, High: 65534, Shard: 1}, {Low: 65535, High: 65535, Shard: 0}}, Forward: []int{-1, -1}})
}

func TestMerge(t *testing.T) {
	d := usual()
	applies(t, d, merge(5, 3), api.Directory{Version: 8, L: []api.Span{{Low: 0, High: 10, Shard: 3}, d.L[2], d.L[3]}, Forward: []int{-1, 4, -1, -1, 3, 3}})
	applies(t, d, merge(3, 5), api.Directory{Version: 8, L: []api.Span{{Low: 0, High: 10, Shard: 5}, d.L[2], d.L[3]}, Forward: []int{-1, 4, -1, 5, 3, -1}})
	applies(t, d, merge(3, 0), api.Directory{Version: 8, L: []api.Span{d.L[0], {Low: 10, High: 40000, Shard: 0}, d.L[3]}, Forward: []int{-1, 4, -1, 0, 3, -1}})
	applies(t, d, merge(0, 3), api.Directory{Version: 8, L: []api.Span{d.L[0], {Low: 10, High: 40000, Shard: 3}, d.L[3]}, Forward: []int{3, 4, -1, -1, 3, -1}})
	applies(t, d, merge(0, 2), api.Directory{Version: 8, L: []api.Span{d.L[0], d.L[1], {Low: 11, High: 65535, Shard: 2}}, Forward: []int{2, 4, -1, -1, 3, -1}})
	applies(t, d, merge(2, 0), api.Directory{Version: 8, L: []api.Span{d.L[0], d.L[1], {Low: 11, High: 65535, Shard: 0}}, Forward: []int{-1, 4, 0, -1, 3, -1}})
	applies(t, dir(spans(1, 0), -1, -1), merge(1, 0), api.Directory{Version: 8, L: spans(0), Forward: []int{-1, 0}})
}

// A merge does not look at Mid.
func TestMidOfMerge(t *testing.T) {
	want, _ := directory.Apply(usual(), merge(3, 0))
	for _, mid := range extremes {
		applies(t, usual(), api.Edit{Kind: api.EditMerge, From: 3, To: 0, Mid: mid}, want)
	}
}

// Of every span, each Mid but the last route is accepted, and nothing outside.
func TestMid(t *testing.T) {
	d := usual()
	for _, s := range d.L {
		for _, mid := range append([]int{s.Low - 2, s.Low - 1, s.Low, s.Low + 1, (s.Low + s.High) / 2, s.High - 2, s.High - 1, s.High, s.High + 1, 3, 10, 20000, 50000}, extremes...) {
			checkMid(t, d, s, mid)
		}
	}
	for mid := -3; mid < 15; mid++ {
		checkMid(t, d, d.L[0], mid)
		checkMid(t, d, d.L[1], mid)
	}
}

func checkMid(t *testing.T, d api.Directory, s api.Span, mid int) {
	t.Helper()
	if mid < s.Low || mid >= s.High {
		failsToApply(t, d, split(s.Shard, 4, mid), api.ErrRange)
		return
	}
	got, e := directory.Apply(d, split(s.Shard, 4, mid))
	lower, _ := directory.Span(got, s.Shard)
	upper, ok := directory.Span(got, 4)
	if e != api.OK || !ok || lower != (api.Span{Low: s.Low, High: mid, Shard: s.Shard}) || upper != (api.Span{Low: mid + 1, High: s.High, Shard: 4}) {
		t.Errorf("a split of %+v at %d gives %+v, %d", s, mid, got, e)
	}
}

func TestApplyErrors(t *testing.T) {
	d := usual()
	for _, c := range []struct {
		name string
		e    api.Edit
		want api.Errno
	}{
		{"zero", api.Edit{}, api.ErrKind},
		{"the kind 3", api.Edit{Kind: 3, From: 3, To: 0}, api.ErrKind},
		{"the kind -1", api.Edit{Kind: -1, From: 3, To: 0}, api.ErrKind},
		{"no kind and no slots", api.Edit{Kind: 3, From: 6, To: -1, Mid: -1}, api.ErrKind},

		{"a split from -1", split(-1, 1, 5), api.ErrMissing},
		{"a split from 6", split(6, 1, 5), api.ErrMissing},
		{"a split to -1", split(5, -1, 5), api.ErrMissing},
		{"a split to 6", split(5, 6, 5), api.ErrMissing},
		{"a split to 6 of a slot without a span", split(1, 6, 5), api.ErrMissing},
		{"a split from 6 to a slot with a span", split(6, 0, 5), api.ErrMissing},
		{"a split to 6 with a wrong Mid", split(5, 6, -1), api.ErrMissing},
		{"a merge from -1", merge(-1, 5), api.ErrMissing},
		{"a merge from 6", merge(6, 5), api.ErrMissing},
		{"a merge to -1", merge(5, -1), api.ErrMissing},
		{"a merge to 6", merge(5, 6), api.ErrMissing},
		{"a merge of -1 with itself", merge(-1, -1), api.ErrMissing},
		{"a merge to 6 of a slot without a span", merge(1, 6), api.ErrMissing},
		{"a merge of 6 to a slot without a span", merge(6, 1), api.ErrMissing},

		{"a split of a slot without a span", split(1, 4, 5), api.ErrState},
		{"a split to a slot with a span", split(5, 3, 5), api.ErrState},
		{"a split of a slot without a span to one with a span", split(1, 5, 5), api.ErrState},
		{"a split to itself", split(5, 5, 5), api.ErrState},
		{"a split to itself without a span", split(1, 1, 5), api.ErrState},
		{"a split of a slot without a span with a wrong Mid", split(1, 4, -1), api.ErrState},
		{"a split to a slot with a span with a wrong Mid", split(5, 3, 9), api.ErrState},

		{"a split before the span", split(0, 1, 10), api.ErrRange},
		{"a split behind the span", split(0, 1, 40000), api.ErrRange},
		{"a split of one route", split(3, 1, 10), api.ErrRange},
		{"a split before one route", split(3, 1, 9), api.ErrRange},

		{"a merge of a slot without a span", merge(1, 3), api.ErrState},
		{"a merge of a slot without a span to the first one", merge(1, 5), api.ErrState},
		{"a merge to a slot without a span", merge(3, 1), api.ErrState},
		{"a merge of the first one to a slot without a span", merge(5, 1), api.ErrState},
		{"a merge without spans", merge(1, 4), api.ErrState},
		{"a merge with itself", merge(3, 3), api.ErrState},
		{"a merge with itself without a span", merge(1, 1), api.ErrState},
		{"a merge over another one", merge(5, 0), api.ErrState},
		{"a merge back over another one", merge(2, 3), api.ErrState},
		{"a merge of the ends", merge(5, 2), api.ErrState},
		{"a merge of the ends back", merge(2, 5), api.ErrState},
	} {
		if got, e := directory.Apply(d, c.e); e != c.want || !isEmpty(got) {
			t.Errorf("%s: Apply = %+v, %d, want %d", c.name, got, e, c.want)
		}
		spent := clone(d)
		spent.Version = 1 << 40
		failsToApply(t, spent, c.e, api.ErrExhausted)
	}
}

// The last version is reached, and not left any more.
func TestExhausted(t *testing.T) {
	for _, e := range []api.Edit{split(5, 1, 5), merge(5, 3)} {
		d := usual()
		d.Version = 1<<40 - 1
		last, err := directory.Apply(d, e)
		if err != api.OK || last.Version != 1<<40 || directory.Validate(last) != api.OK {
			t.Errorf("Apply(%+v, %+v) = %+v, %d", d, e, last, err)
		}
		for _, e := range []api.Edit{{}, split(0, 4, 5000), merge(0, 2), split(9, 9, 9), {Kind: 9}} {
			failsToApply(t, last, e, api.ErrExhausted)
		}
	}
}

// The error of the directory comes first, whatever else is wrong.
func TestErrorOfTheDirectoryComesFirst(t *testing.T) {
	for _, c := range brokenDirectories() {
		for _, e := range []api.Edit{{}, split(0, 1, 5), merge(0, 1), merge(1, 0), split(-1, 9, 9), {Kind: 3}, {Kind: -1, From: -1, To: 9, Mid: -1}} {
			failsToApply(t, c.d, e, c.want)
		}
	}
}

// Slots that lead to a slot lead on, when that is split off or merged.
func TestForwardsStay(t *testing.T) {
	d, _ := directory.New(4, 4)
	for _, c := range []struct {
		e       api.Edit
		forward []int
		homes   []int
	}{
		{merge(3, 2), []int{-1, -1, -1, 2}, []int{0, 1, 2, 2}},
		{merge(2, 1), []int{-1, -1, 1, 2}, []int{0, 1, 1, 1}},
		{merge(1, 0), []int{-1, 0, 1, 2}, []int{0, 0, 0, 0}},
		{split(0, 2, 10), []int{-1, 0, -1, 2}, []int{0, 0, 2, 2}},
		{merge(0, 2), []int{2, 0, -1, 2}, []int{2, 2, 2, 2}},
		{split(2, 0, 10), []int{-1, 0, -1, 2}, []int{0, 0, 2, 2}},
		{split(0, 3, 500), []int{-1, 0, -1, -1}, []int{0, 0, 2, 3}},
		{split(0, 1, 200), []int{-1, -1, -1, -1}, []int{0, 1, 2, 3}},
	} {
		version := d.Version
		var err api.Errno
		d, err = directory.Apply(d, c.e)
		if err != api.OK || !slices.Equal(d.Forward, c.forward) || d.Version != version+1 {
			t.Fatalf("after %+v: %+v, %d, want %v", c.e, d, err, c.forward)
		}
		homes(t, d, c.homes...)
	}
}
