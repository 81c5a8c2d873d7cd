package walk_test

import (
	"math/rand/v2"
	"slices"
	"testing"

	"shardqueue/api"
	"shardqueue/directory"
	"shardqueue/walk"
)

// spansOf returns the spans that end at the cuts and at the last route; the cuts ascend.
func spansOf(cuts ...int) []api.Span {
	var l []api.Span
	low := 0
	for i, high := range append(slices.Clone(cuts), 65535) {
		l = append(l, api.Span{Low: low, High: high, Shard: i})
		low = high + 1
	}
	return l
}

// holder returns the index of the span with a route.
func holder(l []api.Span, route int) int {
	return slices.IndexFunc(l, func(s api.Span) bool { return s.Low <= route && route <= s.High })
}

// visits returns the indices of the spans that a walk visits until it is over.
func visits(t *testing.T, l []api.Span, route int) []int {
	t.Helper()
	var visited []int
	w, e := walk.Begin(route)
	for e == api.OK && !walk.Over(w) && len(visited) <= len(l)+1 {
		i := holder(l, w.Next)
		visited = append(visited, i)
		w, e = walk.Advance(w, l[i].Low, l[i].High)
	}
	if e != api.OK || !walk.Over(w) {
		t.Errorf("a walk from %d over %+v ends with %+v, %d", route, l, w, e)
	}
	return visited
}

// round returns the indices of all spans, from the one with a route on; if this route is not its first one, it comes again at the end.
func round(l []api.Span, route int) []int {
	first := holder(l, route)
	var all []int
	for i := range l {
		all = append(all, (first+i)%len(l))
	}
	if l[first].Low < route {
		all = append(all, first)
	}
	return all
}

// checkRound tests that a walk visits the spans of a round, one after the other.
func checkRound(t *testing.T, l []api.Span, route int) {
	t.Helper()
	if got, want := visits(t, l, route), round(l, route); !slices.Equal(got, want) {
		t.Errorf("a walk from %d over %+v visits %v, want %v", route, l, got, want)
	}
}

// P16.2

func TestRound(t *testing.T) {
	for _, c := range []struct {
		l     []api.Span
		route int
		want  []int
	}{
		{spansOf(), 0, []int{0}},
		{spansOf(), 1, []int{0, 0}},
		{spansOf(), 65535, []int{0, 0}},
		{spansOf(32767), 40000, []int{1, 0, 1}},
		{spansOf(32767), 32768, []int{1, 0}},
		{spansOf(32767), 32767, []int{0, 1, 0}},
		{spansOf(32767), 0, []int{0, 1}},
		{spansOf(0, 65534), 0, []int{0, 1, 2}},
		{spansOf(0, 65534), 1, []int{1, 2, 0}},
		{spansOf(0, 65534), 2, []int{1, 2, 0, 1}},
		{spansOf(0, 65534), 65535, []int{2, 0, 1}},
		{spansOf(9, 19, 29, 39, 49), 25, []int{2, 3, 4, 5, 0, 1, 2}},
		{spansOf(9, 19, 29, 39, 49), 60000, []int{5, 0, 1, 2, 3, 4, 5}},
	} {
		if got := visits(t, c.l, c.route); !slices.Equal(got, c.want) {
			t.Errorf("a walk from %d over %+v visits %v, want %v", c.route, c.l, got, c.want)
		}
	}
}

// A walk can begin at each route.
func TestRoundFromEachRoute(t *testing.T) {
	for live := 1; live <= 6; live++ {
		d, e := directory.New(6, live)
		if e != api.OK {
			t.Fatal(e)
		}
		for route := range 65536 {
			checkRound(t, d.L, route)
		}
	}
	for route := range 65536 {
		checkRound(t, spansOf(0, 1, 99, 40000, 65534), route)
	}
}

// Up to six spans with each choice of ends, also with one route alone, and beginnings beside each end.
func TestRoundOverEachChoiceOfSpans(t *testing.T) {
	ends := []int{0, 1, 2, 7, 32767, 32768, 65532, 65533, 65534}
	for chosen := range 1 << len(ends) {
		var cuts []int
		for i, end := range ends {
			if chosen>>i&1 == 1 {
				cuts = append(cuts, end)
			}
		}
		if len(cuts) > 5 {
			continue
		}
		for _, end := range append(ends, 65535) {
			for route := max(end-3, 0); route <= min(end+3, 65535); route++ {
				checkRound(t, spansOf(cuts...), route)
			}
		}
	}
}

// More spans than a directory can have: each route is a span of its own.
func TestRoundOverSingleRoutes(t *testing.T) {
	for _, from := range []int{0, 1, 40000, 65535} {
		w, e := walk.Begin(from)
		for n := range 65536 {
			if e != api.OK || walk.Over(w) || w != (api.Walk{Next: (from + n) % 65536, Covered: n}) {
				t.Fatalf("after %d routes from %d: %+v, %d", n, from, w, e)
			}
			w, e = walk.Advance(w, w.Next, w.Next)
		}
		if e != api.OK || !walk.Over(w) || w != (api.Walk{Next: from, Covered: 65536}) {
			t.Errorf("after all routes from %d: %+v, %d", from, w, e)
		}
	}
}

// someEdit returns a split or a merge, which may be impossible.
func someEdit(random *rand.Rand, d api.Directory) api.Edit {
	s := d.L[random.IntN(len(d.L))]
	other := random.IntN(len(d.Forward))
	if random.IntN(2) == 0 {
		return api.Edit{Kind: api.EditMerge, From: s.Shard, To: other}
	}
	return api.Edit{Kind: api.EditSplit, From: s.Shard, To: other, Mid: s.Low + random.IntN(s.High-s.Low+1)}
}

// changed returns a directory after some splits and merges; those that are impossible are left out.
func changed(random *rand.Rand, d api.Directory, edits int) api.Directory {
	for range edits {
		if next, e := directory.Apply(d, someEdit(random, d)); e == api.OK {
			d = next
		}
	}
	return d
}

func someDirectory(t *testing.T, random *rand.Rand) api.Directory {
	t.Helper()
	slots := 1 + random.IntN(6)
	d, e := directory.New(slots, 1+random.IntN(slots))
	if e != api.OK {
		t.Fatal(e)
	}
	return changed(random, d, random.IntN(12))
}

func TestRoundOverRandomDirectories(t *testing.T) {
	random := rand.New(rand.NewPCG(16, 1))
	for range 20000 {
		d := someDirectory(t, random)
		for range 5 {
			checkRound(t, d.L, random.IntN(65536))
		}
		for _, s := range d.L {
			checkRound(t, d.L, s.Low)
			checkRound(t, d.L, s.High)
		}
	}
}

// visit advances a walk with the shard that the directory names, and marks the routes that it covers.
func visit(t *testing.T, d api.Directory, w api.Walk, marks []bool) api.Walk {
	t.Helper()
	s, ok := directory.Span(d, directory.Owner(d, w.Next))
	next, e := walk.Advance(w, s.Low, s.High)
	if !ok || e != api.OK {
		t.Fatalf("Advance(%+v, %d, %d) over %+v = %+v, %d", w, s.Low, s.High, d, next, e)
	}
	for route := w.Next; route <= s.High; route++ {
		marks[route] = true
	}
	return next
}

// While shards are split and merged, a walk comes to every route, and it is over when it has covered all of them.
func TestRoundOverChangingDirectories(t *testing.T) {
	random := rand.New(rand.NewPCG(16, 2))
	for range 1000 {
		d, marks := someDirectory(t, random), make([]bool, 65536)
		w, e := walk.Begin(random.IntN(65536))
		if e != api.OK {
			t.Fatal(e)
		}
		for !walk.Over(w) {
			if !slices.Contains(marks, false) {
				t.Fatalf("%+v has been everywhere, and is not over", w)
			}
			d = changed(random, d, random.IntN(4))
			w = visit(t, d, w, marks)
		}
		if slices.Contains(marks, false) {
			t.Fatalf("%+v is over, but has not been everywhere", w)
		}
		if again, e := walk.Advance(w, 0, 65535); e != api.ErrRange || again != (api.Walk{}) {
			t.Errorf("Advance of %+v, which is over: %+v, %d", w, again, e)
		}
	}
}
