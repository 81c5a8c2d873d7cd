package directory_test

import (
	"math/rand/v2"
	"slices"
	"testing"

	"shardqueue/api"
	"shardqueue/directory"
)

// model is a directory as the owners of all routes.
type model struct {
	version int
	owner   [65536]int8
	forward []int
	ever    []bool // which slots were ever live
}

func newModel(d api.Directory) *model {
	m := &model{version: d.Version, forward: slices.Clone(d.Forward), ever: make([]bool, len(d.Forward))}
	for _, s := range d.L {
		for route := s.Low; route <= s.High; route++ {
			m.owner[route] = int8(s.Shard)
		}
	}
	return m
}

// spans returns the routes with the same owner.
func (m *model) spans() []api.Span {
	var l []api.Span
	for route, owner := range m.owner {
		if route == 0 || m.owner[route-1] != owner {
			l = append(l, api.Span{Low: route, Shard: int(owner)})
		}
		l[len(l)-1].High = route
	}
	return l
}

func (m *model) directory() api.Directory {
	return api.Directory{Version: m.version, L: m.spans(), Forward: m.forward}
}

// span returns the first and the last route of a slot, or -1.
func (m *model) span(slot int) (low, high int) {
	low = -1
	high = -1
	for route, owner := range m.owner {
		if int(owner) == slot {
			if low < 0 {
				low = route
			}
			high = route
		}
	}
	return low, high
}

func (m *model) isSlot(n int) bool {
	return n >= 0 && n < len(m.forward)
}

// apply carries out a change, or returns its error.
func (m *model) apply(e api.Edit) api.Errno {
	if e.Kind < 1 || e.Kind > 2 {
		return api.ErrKind
	}
	if !m.isSlot(e.From) || !m.isSlot(e.To) {
		return api.ErrMissing
	}
	low, high := m.span(e.From)
	other, end := m.span(e.To)
	if low < 0 || (other < 0) != (e.Kind == api.EditSplit) {
		return api.ErrState
	}
	if e.Kind == api.EditSplit && (e.Mid < low || e.Mid >= high) {
		return api.ErrRange
	}
	if e.Kind == api.EditMerge && high+1 != other && end+1 != low {
		return api.ErrState
	}
	from := low
	m.forward[e.From] = e.To
	if e.Kind == api.EditSplit {
		from = e.Mid + 1
		m.forward[e.From], m.forward[e.To] = -1, -1
	}
	for route := from; route <= high; route++ {
		m.owner[route] = int8(e.To)
	}
	m.version++
	return api.OK
}

// randomEdit returns a change that mostly has some chance to succeed.
func randomEdit(random *rand.Rand, d api.Directory) api.Edit {
	e := api.Edit{Kind: 1 + random.IntN(2), From: random.IntN(len(d.Forward)), To: random.IntN(len(d.Forward))}
	s := d.L[random.IntN(len(d.L))]
	if random.IntN(4) > 0 {
		e.From = s.Shard
	}
	e.Mid = s.Low + random.IntN(s.High-s.Low+1)>>random.IntN(16)
	switch random.IntN(40) {
	case 0:
		e.Kind = extremes[random.IntN(len(extremes))]
	case 1:
		e.From = extremes[random.IntN(len(extremes))]
	case 2:
		e.To = extremes[random.IntN(len(extremes))]
	case 3:
		e.Mid = extremes[random.IntN(len(extremes))]
	}
	return e
}

// Long runs of changes are compared with the owners of all routes.
func TestLongRuns(t *testing.T) {
	random := rand.New(rand.NewPCG(10, 1))
	for slots := 1; slots <= 6; slots++ {
		for live := 1; live <= slots; live++ {
			d, _ := directory.New(slots, live)
			m := newModel(d)
			for range 200 {
				e := randomEdit(random, d)
				want := m.apply(e)
				got, err := directory.Apply(d, e)
				if err != want || want != api.OK && !isEmpty(got) {
					t.Fatalf("Apply(%+v, %+v) = %+v, %d, want %d", d, e, got, err, want)
				}
				if want != api.OK {
					continue
				}
				d = got
				if w := m.directory(); !same(d, w) {
					t.Fatalf("after %+v: %+v, want %+v", e, d, w)
				}
			}
			if slots > 1 && d.Version < 20 {
				t.Errorf("only %d changes with %d slots", d.Version, slots)
			}
		}
	}
}

// P10.5

// After each change every route has one owner, which is the one before it if the change does not concern the route, and the home of each slot that was ever live is live.
func TestOwnersAndHomes(t *testing.T) {
	random := rand.New(rand.NewPCG(10, 2))
	for slots := 1; slots <= 6; slots++ {
		d, _ := directory.New(slots, 1+random.IntN(slots))
		ever := make([]bool, slots)
		before := owners(t, d)
		for range 60 {
			for _, s := range d.L {
				ever[s.Shard] = true
			}
			e := randomEdit(random, d)
			from, _ := directory.Span(d, e.From)
			next, err := directory.Apply(d, e)
			if err != api.OK {
				continue
			}
			d = next
			after := owners(t, d)
			for route, owner := range after {
				want := before[route]
				if route >= from.Low && route <= from.High && (e.Kind == api.EditMerge || route > e.Mid) {
					want = int8(e.To)
				}
				if owner != want {
					t.Fatalf("after %+v the route %d has the owner %d, want %d", e, route, owner, want)
				}
			}
			before = after
			checkHomes(t, d, ever)
		}
	}
}

// owners returns the owners of all routes, and tests that each one is a slot with a span that contains the route.
func owners(t *testing.T, d api.Directory) []int8 {
	t.Helper()
	if e := directory.Validate(d); e != api.OK {
		t.Fatalf("%+v is not valid: %d", d, e)
	}
	all := make([]int8, 65536)
	for route := range all {
		owner := directory.Owner(d, route)
		if owner < 0 || owner >= len(d.Forward) {
			t.Fatalf("the route %d has the owner %d in %+v", route, owner, d)
		}
		all[route] = int8(owner)
	}
	for slot := range d.Forward {
		s, ok := directory.Span(d, slot)
		if ok != slices.Contains(all, int8(slot)) || ok && (s.Shard != slot || all[s.Low] != int8(slot) || all[s.High] != int8(slot)) {
			t.Fatalf("the slot %d has the span %+v in %+v", slot, s, d)
		}
	}
	return all
}

// checkHomes tests that slots that were ever live lead to a live one, and live ones to themselves.
func checkHomes(t *testing.T, d api.Directory, ever []bool) {
	t.Helper()
	for slot := range d.Forward {
		home := directory.Home(d, slot)
		_, live := directory.Span(d, home)
		_, here := directory.Span(d, slot)
		if ever[slot] && !live || !ever[slot] && !here && home != -1 || here && home != slot {
			t.Errorf("the home of %d is %d in %+v", slot, home, d)
		}
	}
}

// Every way of up to four changes, at a few places, gives valid directories in which all that was ever live has a home.
func TestAllShortWays(t *testing.T) {
	for slots := 1; slots <= 3; slots++ {
		for live := 1; live <= slots; live++ {
			d, _ := directory.New(slots, live)
			ever := make([]bool, slots)
			for slot := range live {
				ever[slot] = true
			}
			shortWays(t, d, ever, 5)
		}
	}
}

func shortWays(t *testing.T, d api.Directory, ever []bool, steps int) {
	t.Helper()
	if e := directory.Validate(d); e != api.OK {
		t.Fatalf("%+v is not valid: %d", d, e)
	}
	checkHomes(t, d, ever)
	if steps == 0 {
		return
	}
	for from := range d.Forward {
		s, _ := directory.Span(d, from)
		for to := range d.Forward {
			edits := []api.Edit{merge(from, to), split(from, to, s.Low), split(from, to, (s.Low+s.High)/2), split(from, to, s.High-1)}
			for _, e := range edits {
				next, err := directory.Apply(d, e)
				if err != api.OK {
					continue
				}
				now := slices.Clone(ever)
				now[to] = true
				shortWays(t, next, now, steps-1)
			}
		}
	}
}

// A merge after a split, and a split after a merge, give the same spans again.
func TestThereAndBack(t *testing.T) {
	d := usual()
	for _, s := range d.L {
		for _, to := range []int{1, 4} {
			for mid := s.Low; mid < min(s.High, s.Low+50); mid++ {
				divided, _ := directory.Apply(d, split(s.Shard, to, mid))
				again, e := directory.Apply(divided, merge(to, s.Shard))
				if e != api.OK || !slices.Equal(again.L, d.L) || again.Version != 9 || directory.Home(again, to) != s.Shard {
					t.Errorf("a split of %+v at %d and a merge give %+v, %d", s, mid, again, e)
				}
			}
		}
	}
	for i, s := range d.L[1:] {
		united, _ := directory.Apply(d, merge(s.Shard, d.L[i].Shard))
		again, e := directory.Apply(united, split(d.L[i].Shard, s.Shard, s.Low-1))
		if e != api.OK || !slices.Equal(again.L, d.L) || !slices.Equal(again.Forward, d.Forward) {
			t.Errorf("a merge of %+v and a split give %+v, %d", s, again, e)
		}
	}
}

// Rules

// R1 and R4: every function returns for all arguments, and with an error nothing else.
func TestAllArguments(t *testing.T) {
	for _, n := range extremes {
		for _, k := range extremes {
			s := api.Span{Low: n, High: k, Shard: n}
			for _, l := range [][]api.Span{nil, {s}, {{High: n, Shard: k}, s}, {{High: n}, {Low: n + 1, High: k, Shard: 1}}, spans(n), spans(0, k), spans(n, k), slices.Repeat([]api.Span{s}, 1000), spans(slices.Repeat([]int{k}, 600)...), usual().L} {
				for _, forward := range [][]int{nil, {n}, {-1, n}, {n, k}, {-1, -1}, {-1, n, k}, {-1, k, -1, -1, n, -1}, slices.Repeat([]int{n}, 1000)} {
					for _, version := range []int{1, n} {
						callAll(t, api.Directory{Version: version, L: l, Forward: forward}, n, k)
					}
				}
			}
		}
	}
}

func callAll(t *testing.T, d api.Directory, n, k int) {
	t.Helper()
	valid := directory.Validate(d)
	owner, home := directory.Owner(d, n), directory.Home(d, k)
	s, ok := directory.Span(d, k)
	if valid != api.OK && (owner != -1 || home != -1 || ok) {
		t.Errorf("%+v, which is not valid, has a part", d)
	}
	if !ok && s != (api.Span{}) || ok && s.Shard != k || ok != (home == k && k != -1) || (owner == -1) != (valid != api.OK || n < 0 || n > 65535) {
		t.Errorf("%+v has for %d and %d the owner %d, the home %d and the span %+v, %t", d, n, k, owner, home, s, ok)
	}
	for _, e := range []api.Edit{{Kind: n, From: k, To: n, Mid: k}, split(n, k, n), split(0, 1, n), split(n, 1, k), split(k, 4, n), merge(n, k), merge(0, n), merge(k, 0)} {
		got, err := directory.Apply(d, e)
		if err != api.OK && !isEmpty(got) || valid != api.OK && err != valid {
			t.Errorf("Apply(%+v, %+v) = %+v, %d", d, e, got, err)
		}
		if err == api.OK && directory.Validate(got) != api.OK {
			t.Errorf("Apply(%+v, %+v) = %+v, which is not valid", d, e, got)
		}
	}
}

// roomy returns a copy of a directory, with room behind its lists that an append in place would write to.
func roomy(d api.Directory) api.Directory {
	d.L = append(slices.Clone(d.L), make([]api.Span, 8)...)[:len(d.L)]
	d.Forward = append(slices.Clone(d.Forward), make([]int, 8)...)[:len(d.Forward)]
	return d
}

// whole returns a copy of a directory with the room behind its lists.
func whole(d api.Directory) api.Directory {
	d.L = slices.Clone(d.L[:cap(d.L)])
	d.Forward = slices.Clone(d.Forward[:cap(d.Forward)])
	return d
}

// fill fills the lists of a directory, and the room behind them.
func fill(d api.Directory) {
	l, forward := d.L[:cap(d.L)], d.Forward[:cap(d.Forward)]
	for i := range l {
		l[i] = api.Span{Low: 77, High: 77, Shard: 77}
	}
	for i := range forward {
		forward[i] = 77
	}
}

// edits are changes of usual, which all succeed.
func edits() []api.Edit {
	return []api.Edit{split(5, 1, 0), split(0, 4, 20), split(2, 1, 65534), merge(5, 3), merge(3, 5), merge(3, 0), merge(0, 3), merge(2, 0), merge(0, 2)}
}

// R2: no function changes its arguments, and the lists of a result are new memory.
func TestNothingIsShared(t *testing.T) {
	for _, e := range edits() {
		for _, d := range []api.Directory{usual(), roomy(usual())} {
			old := whole(d)
			first, _ := directory.Apply(d, e)
			second, err := directory.Apply(d, e)
			want := clone(second)
			fill(first)
			if err != api.OK || !same(whole(d), old) {
				t.Fatalf("Apply of %+v changes its arguments, or its result shares memory with them", e)
			}
			fill(d)
			if !same(second, want) {
				t.Errorf("Apply of %+v: a result shares memory with another one or with the arguments", e)
			}
		}
	}
	first, _ := directory.New(6, 3)
	second, _ := directory.New(6, 3)
	want := clone(second)
	fill(first)
	third, _ := directory.New(6, 3)
	if !same(second, want) || !same(third, want) {
		t.Errorf("results of New share memory: %+v, %+v", second, third)
	}
}

func TestArgumentsStay(t *testing.T) {
	all := append(brokenDirectories(), broken{d: usual()})
	for _, c := range all {
		d := roomy(c.d)
		old := whole(d)
		for n := -1; n <= 6; n++ {
			directory.Validate(d)
			directory.Owner(d, n)
			directory.Span(d, n)
			directory.Home(d, n)
			for _, e := range []api.Edit{{}, split(n, 1, 4), split(5, n, 9), merge(n, 3), merge(5, n), split(n, n, n)} {
				directory.Apply(d, e)
			}
		}
		if !same(whole(d), old) {
			t.Errorf("%s: a function changes its arguments", c.name)
		}
	}
}

// What an earlier call returned does not change when it is used again.
func TestEarlierResultsStay(t *testing.T) {
	d, _ := directory.New(4, 2)
	results := []api.Directory{d}
	for _, e := range []api.Edit{split(0, 2, 100), split(1, 3, 60000), merge(2, 1), merge(0, 1), split(1, 0, 9), merge(3, 0)} {
		d, _ = directory.Apply(d, e)
		results = append(results, d)
	}
	var copies []api.Directory
	for _, d := range results {
		copies = append(copies, clone(d))
	}
	for _, d := range results {
		for from := range 4 {
			for to := range 4 {
				directory.Apply(d, merge(from, to))
				directory.Apply(d, split(from, to, 50))
			}
		}
	}
	for i, d := range results {
		if !same(d, copies[i]) || d.Version != i+1 {
			t.Errorf("result %d is now %+v, and was %+v", i, d, copies[i])
		}
	}
}

// R2 and R3: a result depends neither on the room behind a list, nor on what was done before.
func TestEqualArguments(t *testing.T) {
	for _, e := range edits() {
		a, first := directory.Apply(usual(), e)
		b, second := directory.Apply(roomy(usual()), e)
		c, third := directory.Apply(usual(), e)
		if !same(a, b) || !same(a, c) || first != second || first != third {
			t.Errorf("Apply of %+v: %+v, %d, then %+v, %d, then %+v, %d", e, a, first, b, second, c, third)
		}
	}
}
