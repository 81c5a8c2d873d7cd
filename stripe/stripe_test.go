package stripe_test

import (
	"math"
	"math/rand/v2"
	"slices"
	"strings"
	"testing"

	"shardqueue/api"
	"shardqueue/shard"
	"shardqueue/stripe"
)

// last is the greatest number of a stripe.
const last = 1 << 40

// numbers are those at which sums and comparisons are prone to go wrong.
var numbers = []int{
	math.MinInt, math.MinInt + 1, -last - 1, -last, -1 << 32, -3, -2, -1, 0, 1, 2, 3, 4, 5, 7, 8, 9, 10, 255, 256, 65535, 65536, 65537, 1 << 30,
	1<<31 - 1, 1 << 31, 1<<32 - 1, 1 << 32, 1<<32 + 1, last/2 - 1, last / 2, last - 4, last - 3, last - 2, last - 1, last, last + 1, last + 2,
	1<<41 - 1, 1 << 41, 1<<62 - 1, 1 << 62, math.MaxInt - 1, math.MaxInt,
}

// msg returns a valid message, whose ID decides about the fields that do not matter here.
func msg(id, epoch, count int) api.Message {
	return api.Message{ID: id, Route: id * 31 % 100, Epoch: epoch, Count: count, Gen: count + id%5, Sent: 7 * id, Body: strings.Repeat("b", id%16)}
}

// holding returns a live shard of the routes 0 to 99, with room for 12 messages; ready is a list in any order, leased one in ascending order of the IDs.
func holding(ready, leased []api.Message) api.Shard {
	s := api.Shard{Live: true, High: 99, Ready: api.Ring{Cells: make([]api.Message, 12), Head: 9, Size: len(ready)}}
	for i, m := range ready {
		s.Ready.Cells[(9+i)%12] = m
	}
	for i, m := range leased {
		s.Leases.L = append(s.Leases.L, api.Lease{Msg: m, Deadline: 5 + i})
		s.Leases.Heap = append(s.Leases.Heap, api.Due{Deadline: 5 + i, ID: m.ID})
	}
	return s
}

// busy returns a shard that has 3 ready messages and 2 leases in the epoch 6 with the limit 2, and 5 messages that do not count.
func busy() api.Shard {
	return holding(
		[]api.Message{msg(9, 6, 0), msg(8, 5, 0), msg(7, 6, 2), msg(1, 6, 1), msg(2, 7, 1), msg(3, 6, 8), msg(4, 0, 8)},
		[]api.Message{msg(11, 6, 1), msg(12, 5, 1), msg(13, 6, 2)})
}

func empty() api.Shard {
	return holding(nil, nil)
}

// checkBegin tests what comes out of Begin.
func checkBegin(t *testing.T, s, want api.Stripe, wanted api.Errno) {
	t.Helper()
	if got, e := stripe.Begin(s); e != wanted || got != want {
		t.Errorf("Begin(%+v) = %+v, %d, want %+v, %d", s, got, e, want, wanted)
	}
}

// checkEnd tests what comes out of End.
func checkEnd(t *testing.T, s api.Stripe, x api.Shard, epoch, limit int, want api.Stripe, wanted api.Errno) {
	t.Helper()
	if got, e := stripe.End(s, x, epoch, limit); e != wanted || got != want {
		t.Errorf("End(%+v, %+v, %d, %d) = %+v, %d, want %+v, %d", s, x, epoch, limit, got, e, want, wanted)
	}
}

// failsToEnd tests that End returns an error, and nothing else.
func failsToEnd(t *testing.T, s api.Stripe, x api.Shard, epoch, limit int, want api.Errno) {
	t.Helper()
	checkEnd(t, s, x, epoch, limit, api.Stripe{}, want)
}

// beginError is what the chapter says about a Seq.
func beginError(seq int) api.Errno {
	if seq < 0 || seq > last {
		return api.ErrRange
	}
	if seq&1 == 1 {
		return api.ErrState
	}
	if seq == last {
		return api.ErrExhausted
	}
	return api.OK
}

// endError is what the chapter says about a Seq.
func endError(seq int) api.Errno {
	if seq < 0 || seq > last {
		return api.ErrRange
	}
	if seq&1 == 0 {
		return api.ErrState
	}
	return api.OK
}

// P11.1

func TestBegin(t *testing.T) {
	checkBegin(t, api.Stripe{}, api.Stripe{Seq: 1}, api.OK)
	checkBegin(t, api.Stripe{Seq: 4, Epoch: 1, Ready: 2, Leased: 3}, api.Stripe{Seq: 5, Epoch: 1, Ready: 2, Leased: 3}, api.OK)
	checkBegin(t, api.Stripe{Seq: 1<<40 - 2, Epoch: 5, Ready: 7, Leased: 8}, api.Stripe{Seq: 1<<40 - 1, Epoch: 5, Ready: 7, Leased: 8}, api.OK)
}

func TestBeginErrors(t *testing.T) {
	for _, c := range []struct {
		seq  int
		want api.Errno
	}{
		{-1, api.ErrRange}, {-2, api.ErrRange}, {1<<40 + 1, api.ErrRange}, {1<<40 + 2, api.ErrRange}, {math.MinInt, api.ErrRange}, {math.MaxInt, api.ErrRange}, {math.MaxInt - 1, api.ErrRange},
		{1, api.ErrState}, {3, api.ErrState}, {1<<40 - 3, api.ErrState}, {1<<40 - 1, api.ErrState},
		{1 << 40, api.ErrExhausted},
	} {
		checkBegin(t, api.Stripe{Seq: c.seq}, api.Stripe{}, c.want)
		checkBegin(t, api.Stripe{Seq: c.seq, Epoch: 1, Ready: 2, Leased: 3}, api.Stripe{}, c.want)
	}
}

// aroundNumbers returns all numbers that are near to one of numbers.
func aroundNumbers() []int {
	var l []int
	for _, n := range numbers {
		for near := -9; near <= 9; near++ {
			l = append(l, n+near)
		}
	}
	return l
}

func TestBeginEachSeq(t *testing.T) {
	for _, seq := range aroundNumbers() {
		s := api.Stripe{Seq: seq, Epoch: 1, Ready: 2, Leased: 3}
		want := api.Stripe{Seq: seq + 1, Epoch: 1, Ready: 2, Leased: 3}
		if beginError(seq) != api.OK {
			want = api.Stripe{}
		}
		checkBegin(t, s, want, beginError(seq))
	}
}

// Begin looks at Seq alone, and leaves everything else as it is.
func TestBeginKeepsOtherFields(t *testing.T) {
	for _, a := range numbers {
		for _, b := range numbers {
			for _, s := range []api.Stripe{{Epoch: a, Ready: b, Leased: a}, {Epoch: b, Ready: b, Leased: a}} {
				s.Seq = 6
				want := s
				want.Seq = 7
				checkBegin(t, s, want, api.OK)
				s.Seq = 7
				checkBegin(t, s, api.Stripe{}, api.ErrState)
			}
		}
	}
}

func TestEnd(t *testing.T) {
	checkEnd(t, api.Stripe{Seq: 5}, busy(), 6, 2, api.Stripe{Seq: 6, Epoch: 6, Ready: 3, Leased: 2}, api.OK)
	checkEnd(t, api.Stripe{Seq: 5}, empty(), 6, 2, api.Stripe{Seq: 6, Epoch: 6}, api.OK)
	checkEnd(t, api.Stripe{Seq: 1}, empty(), 0, 1, api.Stripe{Seq: 2}, api.OK)
}

// What the stripe said before does not matter, whether it is in range or not.
func TestEndForgetsOtherFields(t *testing.T) {
	for _, a := range numbers {
		for _, b := range numbers {
			checkEnd(t, api.Stripe{Seq: 5, Epoch: a, Ready: b, Leased: a}, busy(), 6, 2, api.Stripe{Seq: 6, Epoch: 6, Ready: 3, Leased: 2}, api.OK)
			checkEnd(t, api.Stripe{Seq: 5, Epoch: b, Ready: b, Leased: a}, empty(), 6, 2, api.Stripe{Seq: 6, Epoch: 6}, api.OK)
		}
	}
}

func TestEndEachSeq(t *testing.T) {
	for _, seq := range aroundNumbers() {
		want := api.Stripe{Seq: seq + 1, Epoch: 6, Ready: 3, Leased: 2}
		if endError(seq) != api.OK {
			want = api.Stripe{}
		}
		checkEnd(t, api.Stripe{Seq: seq, Epoch: 1, Ready: 2, Leased: 3}, busy(), 6, 2, want, endError(seq))
	}
	checkEnd(t, api.Stripe{Seq: 1<<40 - 1}, busy(), 6, 2, api.Stripe{Seq: 1 << 40, Epoch: 6, Ready: 3, Leased: 2}, api.OK)
	failsToEnd(t, api.Stripe{Seq: 1 << 40}, busy(), 6, 2, api.ErrState)
	failsToEnd(t, api.Stripe{Seq: 1<<40 + 1}, busy(), 6, 2, api.ErrRange)
}

func TestEndEachEpochAndLimit(t *testing.T) {
	for _, epoch := range numbers {
		for _, limit := range append([]int{6}, numbers...) {
			want, wanted := api.Stripe{Seq: 6, Epoch: epoch}, api.OK
			if epoch < 0 || epoch > 65536 || limit < 1 || limit > 8 {
				want, wanted = api.Stripe{}, api.ErrRange
			}
			free, _ := shard.Free(3)
			checkEnd(t, api.Stripe{Seq: 5}, empty(), epoch, limit, want, wanted)
			checkEnd(t, api.Stripe{Seq: 5}, free, epoch, limit, want, wanted)
		}
	}
}

// A message that is purged counts nowhere; one that is spent counts if it is leased.
func TestEndCountsEachKind(t *testing.T) {
	for epoch := range 4 {
		for limit := 1; limit <= 8; limit++ {
			for sent := range 4 {
				for count := range 9 {
					m := msg(1, sent, count)
					ready, leased := 0, 0
					if sent >= epoch {
						leased = 1
					}
					if sent >= epoch && count < limit {
						ready = 1
					}
					checkEnd(t, api.Stripe{Seq: 5}, holding([]api.Message{m}, nil), epoch, limit, api.Stripe{Seq: 6, Epoch: epoch, Ready: ready}, api.OK)
					m.Count, m.Gen = max(count, 1), max(m.Gen, 1)
					checkEnd(t, api.Stripe{Seq: 5}, holding(nil, []api.Message{m}), epoch, limit, api.Stripe{Seq: 6, Epoch: epoch, Leased: leased}, api.OK)
				}
			}
		}
	}
}

// A message whose generations are used up cannot be received, but counts.
func TestEndCountsTheGreatestGeneration(t *testing.T) {
	m := api.Message{ID: 1, Gen: api.MaxGen}
	checkEnd(t, api.Stripe{Seq: 5}, holding([]api.Message{m}, nil), 0, 1, api.Stripe{Seq: 6, Ready: 1}, api.OK)
}

func TestEndCountsEachNumber(t *testing.T) {
	for ready := range 13 {
		for leased := range 13 - ready {
			var r, l []api.Message
			for i := range ready {
				r = append(r, msg(50+i, 1, 1))
			}
			for i := range leased {
				l = append(l, msg(1+i, 1, 1))
			}
			checkEnd(t, api.Stripe{Seq: 5}, holding(r, l), 1, 2, api.Stripe{Seq: 6, Epoch: 1, Ready: ready, Leased: leased}, api.OK)
		}
	}
}

// A slot without a shard has a stripe, too.
func TestEndOfAShardThatIsNotLive(t *testing.T) {
	for capacity := 1; capacity <= 12; capacity++ {
		free, _ := shard.Free(capacity)
		checkEnd(t, api.Stripe{Seq: 7, Epoch: 1, Ready: 2, Leased: 3}, free, 5, 8, api.Stripe{Seq: 8, Epoch: 5}, api.OK)
	}
}

// broken is a shard that is not valid, with its error.
type broken struct {
	name string
	x    api.Shard
	want api.Errno
}

// brokenShards returns shards with each error that there is.
func brokenShards() []broken {
	notLive, crowded, twice, heap, order := busy(), busy(), busy(), busy(), busy()
	notLive.Live, notLive.High = false, 0
	crowded.Leases = holding(nil, []api.Message{msg(21, 6, 1), msg(22, 6, 1), msg(23, 6, 1), msg(24, 6, 1), msg(25, 6, 1), msg(26, 6, 1)}).Leases
	twice.Leases.L[2].Msg.ID, twice.Leases.Heap[2].ID = 12, 12
	heap.Leases.Heap[1].Deadline = 90
	order.Leases.L[0], order.Leases.L[1] = order.Leases.L[1], order.Leases.L[0]
	long := msg(1, 6, 1)
	long.Body = strings.Repeat("b", api.MaxBody+1)
	moved := msg(1, 6, 1)
	moved.Route = 100
	return []broken{
		{"zero", api.Shard{}, api.ErrRange},
		{"live without cells", api.Shard{Live: true}, api.ErrRange},
		{"too many cells", api.Shard{Ready: api.Ring{Cells: make([]api.Message, 13)}}, api.ErrRange},
		{"not live with messages", notLive, api.ErrState},
		{"not live with routes", api.Shard{High: 9, Ready: api.Ring{Cells: make([]api.Message, 2)}}, api.ErrState},
		{"routes in the wrong order", api.Shard{Live: true, Low: 9, High: 8, Ready: api.Ring{Cells: make([]api.Message, 2)}}, api.ErrRange},
		{"a long body", holding([]api.Message{long}, nil), api.ErrTooLong},
		{"a long body of a leased message", holding(nil, []api.Message{long}), api.ErrTooLong},
		{"too many messages", crowded, api.ErrFull},
		{"a route of another shard", holding([]api.Message{moved}, nil), api.ErrMoved},
		{"a message ready and leased", holding([]api.Message{msg(1, 6, 1)}, []api.Message{msg(1, 6, 1)}), api.ErrDuplicate},
		{"a message ready twice", holding([]api.Message{msg(1, 6, 1), msg(1, 6, 1)}, nil), api.ErrDuplicate},
		{"an ID leased twice", twice, api.ErrOrder},
		{"a heap that is not in order", heap, api.ErrState},
		{"leases that are not in order", order, api.ErrOrder},
	}
}

// Of all errors, the first one counts: of the stripe, of the shard, of the numbers.
func TestEndErrorsInOrder(t *testing.T) {
	free, _ := shard.Free(3)
	shards := append(brokenShards(), broken{"busy", busy(), api.OK}, broken{"empty", empty(), api.OK}, broken{"free", free, api.OK})
	for _, c := range shards {
		if e := shard.Validate(c.x); e != c.want {
			t.Fatalf("%s: the shard has the error %d, not %d", c.name, e, c.want)
		}
		for _, seq := range numbers {
			for _, epoch := range []int{-1, 0, 6, 65536, 65537, math.MinInt, math.MaxInt} {
				for _, limit := range []int{-1, 0, 1, 8, 9, math.MinInt, math.MaxInt} {
					want := endError(seq)
					if want == api.OK {
						want = c.want
					}
					if want == api.OK && (epoch < 0 || epoch > 65536 || limit < 1 || limit > 8) {
						want = api.ErrRange
					}
					s := api.Stripe{Seq: seq, Epoch: 1, Ready: 2, Leased: 3}
					if want != api.OK {
						failsToEnd(t, s, c.x, epoch, limit, want)
					} else if got, e := stripe.End(s, c.x, epoch, limit); e != api.OK || got.Seq != seq+1 || got.Epoch != epoch {
						t.Errorf("%s: End(%+v, .., %d, %d) = %+v, %d", c.name, s, epoch, limit, got, e)
					}
				}
			}
		}
	}
}

// randomShard returns a shard with up to 12 messages of several kinds, and how many of them are ready and leased in an epoch with a limit.
func randomShard(random *rand.Rand, epoch, limit int) (x api.Shard, ready, leased int) {
	var r, l []api.Message
	for id := range random.IntN(13) {
		m := msg(1+id, random.IntN(4), 1+random.IntN(8))
		if random.IntN(2) == 0 {
			l = append(l, m)
			if m.Epoch >= epoch {
				leased++
			}
			continue
		}
		r = append(r, m)
		if m.Epoch >= epoch && m.Count < limit {
			ready++
		}
	}
	random.Shuffle(len(r), func(i, j int) { r[i], r[j] = r[j], r[i] })
	return holding(r, l), ready, leased
}

func TestEndOfRandomShards(t *testing.T) {
	random := rand.New(rand.NewPCG(11, 1))
	for range 20000 {
		epoch, limit := random.IntN(4), 1+random.IntN(8)
		x, ready, leased := randomShard(random, epoch, limit)
		seq := 1 + 2*random.IntN(last/2)
		checkEnd(t, api.Stripe{Seq: seq, Epoch: random.IntN(9), Ready: random.IntN(9), Leased: random.IntN(9)}, x, epoch, limit, api.Stripe{Seq: seq + 1, Epoch: epoch, Ready: ready, Leased: leased}, api.OK)
	}
}

// P11.2

func withSeqs(seqs ...int) []api.Stripe {
	var l []api.Stripe
	for _, seq := range seqs {
		l = append(l, api.Stripe{Seq: seq, Epoch: 1, Ready: 3, Leased: 5})
	}
	return l
}

func TestQuiet(t *testing.T) {
	for _, c := range []struct {
		l    []api.Stripe
		want bool
	}{
		{nil, true}, {[]api.Stripe{}, true}, {make([]api.Stripe, 1000), true},
		{withSeqs(0), true}, {withSeqs(1), false}, {withSeqs(2), true}, {withSeqs(1<<40 - 1), false}, {withSeqs(1 << 40), true},
		{withSeqs(2, 4, 6), true}, {withSeqs(1, 4, 6), false}, {withSeqs(2, 3, 6), false}, {withSeqs(2, 4, 5), false}, {withSeqs(1, 3, 5), false}, {withSeqs(1, 3), false},
	} {
		if got := stripe.Quiet(c.l); got != c.want {
			t.Errorf("Quiet(%+v) = %t", c.l, got)
		}
	}
}

// Whether a number is even has nothing to do with its range.
func TestQuietOfAllNumbers(t *testing.T) {
	for _, seq := range aroundNumbers() {
		want := seq&1 == 0
		for _, l := range [][]api.Stripe{withSeqs(seq), withSeqs(seq, 2), withSeqs(2, seq), withSeqs(0, seq, 4, seq)} {
			if stripe.Quiet(l) != want {
				t.Errorf("Quiet(%+v) = %t", l, !want)
			}
		}
	}
}

// One stripe that is odd is enough, wherever it is.
func TestQuietEachPlace(t *testing.T) {
	for _, size := range []int{1, 2, 3, 4, 5, 6, 7, 100, 1000} {
		l := make([]api.Stripe, size)
		for i := range l {
			l[i].Seq = 3
			if stripe.Quiet(l) {
				t.Errorf("%d stripes, of which the one at %d is odd, are quiet", size, i)
			}
			l[i].Seq = 4
			if !stripe.Quiet(l) {
				t.Errorf("%d stripes without an odd one are not quiet", size)
			}
		}
	}
}

// The other numbers of a stripe may be odd.
func TestQuietLooksAtSeqAlone(t *testing.T) {
	for _, a := range numbers {
		for _, b := range numbers {
			if !stripe.Quiet([]api.Stripe{{Seq: 2, Epoch: a, Ready: b, Leased: a}, {Seq: 4, Epoch: b, Ready: a, Leased: b}}) {
				t.Errorf("stripes with %d and %d are not quiet", a, b)
			}
			if stripe.Quiet([]api.Stripe{{Seq: 2, Epoch: a, Ready: b, Leased: a}, {Seq: 5, Epoch: b, Ready: a, Leased: b}}) {
				t.Errorf("odd stripes with %d and %d are quiet", a, b)
			}
		}
	}
}

// checkSame tests both orders of the arguments.
func checkSame(t *testing.T, a, b []api.Stripe, want bool) {
	t.Helper()
	if stripe.Same(a, b) != want || stripe.Same(b, a) != want {
		t.Errorf("Same(%+v, %+v) = %t, and reversed %t, want %t", a, b, stripe.Same(a, b), stripe.Same(b, a), want)
	}
}

func TestSame(t *testing.T) {
	one, two := api.Stripe{Seq: 2, Epoch: 1, Ready: 3, Leased: 4}, api.Stripe{Seq: 4, Epoch: 1, Ready: 3, Leased: 4}
	checkSame(t, nil, nil, true)
	checkSame(t, nil, []api.Stripe{}, true)
	checkSame(t, nil, []api.Stripe{{}}, false)
	checkSame(t, []api.Stripe{{}}, []api.Stripe{{}, {}}, false)
	checkSame(t, []api.Stripe{one}, []api.Stripe{one}, true)
	checkSame(t, []api.Stripe{one}, []api.Stripe{two}, false)
	checkSame(t, []api.Stripe{one, two}, []api.Stripe{one, two}, true)
	checkSame(t, []api.Stripe{one, two}, []api.Stripe{two, one}, false)
	checkSame(t, []api.Stripe{one, two}, []api.Stripe{one}, false)
	checkSame(t, []api.Stripe{one, two}, []api.Stripe{two}, false)
	checkSame(t, []api.Stripe{one, one}, []api.Stripe{one, two}, false)
	checkSame(t, []api.Stripe{one, one, two}, []api.Stripe{one, two, two}, false)
	checkSame(t, withSeqs(3), withSeqs(3), true)
	checkSame(t, make([]api.Stripe, 1000), make([]api.Stripe, 1000), true)
	checkSame(t, make([]api.Stripe, 1000), make([]api.Stripe, 999), false)
}

// Lists differ if one field of one stripe does, by however little or much.
func TestSameEachField(t *testing.T) {
	random := rand.New(rand.NewPCG(11, 2))
	for _, size := range []int{1, 2, 3, 6, 50} {
		for i := range size {
			a := randomStripes(random, size)
			b := slices.Clone(a)
			for _, field := range []*int{&b[i].Seq, &b[i].Epoch, &b[i].Ready, &b[i].Leased} {
				old := *field
				for _, by := range []int{1, -1, 2, 1 << 16, 1 << 32, math.MinInt} {
					*field = old + by
					checkSame(t, a, b, false)
				}
				*field = old
				checkSame(t, a, b, true)
			}
			checkSame(t, a, b[:i], false)
		}
	}
}

// What two numbers of a stripe are together does not make it the same.
func TestSameIsNotAboutSums(t *testing.T) {
	a := []api.Stripe{{Seq: 2, Epoch: 4, Ready: 6, Leased: 8}, {Seq: 10, Epoch: 12, Ready: 14, Leased: 16}}
	for i := range 8 {
		for j := range i {
			b := slices.Clone(a)
			fields := []*int{&b[0].Seq, &b[0].Epoch, &b[0].Ready, &b[0].Leased, &b[1].Seq, &b[1].Epoch, &b[1].Ready, &b[1].Leased}
			*fields[i], *fields[j] = *fields[j], *fields[i]
			checkSame(t, a, b, false)
		}
	}
}

// Each list is the same as itself, even if its numbers are out of range.
func TestSameOfAllNumbers(t *testing.T) {
	for _, a := range numbers {
		for _, b := range numbers {
			l := []api.Stripe{{Seq: a, Epoch: b, Ready: a, Leased: b}, {Seq: b, Epoch: a, Ready: b, Leased: a}}
			checkSame(t, l, slices.Clone(l), true)
			checkSame(t, l, l, true)
			checkSame(t, l[:1], l[1:], a == b)
		}
	}
}

// randomStripes returns stripes with small numbers, of which some are not valid.
func randomStripes(random *rand.Rand, size int) []api.Stripe {
	l := make([]api.Stripe, size)
	for i := range l {
		l[i] = api.Stripe{Seq: random.IntN(20) - 1, Epoch: random.IntN(4) - 1, Ready: random.IntN(20) - 1, Leased: random.IntN(20) - 1}
		if random.IntN(10) == 0 {
			l[i].Seq = last + random.IntN(3) - 1
		}
		if random.IntN(10) == 0 {
			l[i].Ready = last + random.IntN(3) - 1
		}
		if random.IntN(10) == 0 {
			l[i].Leased = last + random.IntN(3) - 1
		}
	}
	return l
}

func checkSum(t *testing.T, l []api.Stripe, epoch, ready, leased int) {
	t.Helper()
	if r, d := stripe.Sum(l, epoch); r != ready || d != leased {
		t.Errorf("Sum(%+v, %d) = %d, %d, want %d, %d", l, epoch, r, d, ready, leased)
	}
}

// The example of the chapter, with the other epochs.
func TestSum(t *testing.T) {
	l := []api.Stripe{{Seq: 2, Epoch: 1, Ready: 3, Leased: 4}, {Seq: 0, Epoch: 0, Ready: 5, Leased: 6}}
	checkSum(t, l, 1, 3, 4)
	checkSum(t, l, 0, 5, 6)
	checkSum(t, l, 2, 0, 0)
	checkSum(t, l, -1, 0, 0)
	checkSum(t, append(l, l...), 1, 6, 8)
	checkSum(t, append(l, api.Stripe{Seq: 8, Epoch: 1, Ready: 10, Leased: 20}), 1, 13, 24)
	checkSum(t, nil, 0, 0, 0)
	checkSum(t, []api.Stripe{}, 1, 0, 0)
}

// A stripe that is odd counts as well.
func TestSumOfOddStripes(t *testing.T) {
	checkSum(t, []api.Stripe{{Seq: 1, Ready: 1, Leased: 2}, {Seq: 2, Ready: 10, Leased: 20}, {Seq: 1<<40 - 1, Ready: 100, Leased: 200}}, 0, 111, 222)
}

// A number that is out of range takes away both counts of its stripe, but not those of the others.
func TestSumRanges(t *testing.T) {
	for _, n := range aroundNumbers() {
		ok := n >= 0 && n <= 1<<40
		for field, s := range []api.Stripe{{Seq: n, Epoch: 3, Ready: 5, Leased: 7}, {Seq: 2, Epoch: 3, Ready: n, Leased: 7}, {Seq: 2, Epoch: 3, Ready: 5, Leased: n}} {
			ready, leased := 0, 0
			if ok {
				ready, leased = []int{5, n, 5}[field], []int{7, 7, n}[field]
			}
			checkSum(t, []api.Stripe{s}, 3, ready, leased)
			checkSum(t, []api.Stripe{s}, 4, 0, 0)
			other := api.Stripe{Seq: 4, Epoch: 3, Ready: 100, Leased: 1000}
			checkSum(t, []api.Stripe{s, other}, 3, ready+100, leased+1000)
			checkSum(t, []api.Stripe{other, s, other}, 3, ready+200, leased+2000)
		}
	}
}

// No number is too great or too small for an epoch: it is only compared.
func TestSumOfEachEpoch(t *testing.T) {
	for _, a := range numbers {
		for _, b := range numbers {
			l := []api.Stripe{{Seq: 2, Epoch: a, Ready: 1, Leased: 2}, {Seq: 2, Epoch: b, Ready: 10, Leased: 20}}
			if a == b {
				checkSum(t, l, a, 11, 22)
			} else {
				checkSum(t, l, a, 1, 2)
				checkSum(t, l, b, 10, 20)
			}
		}
	}
}

func TestSumOfManyStripes(t *testing.T) {
	checkSum(t, slices.Repeat([]api.Stripe{{Seq: 1 << 40, Epoch: 7, Ready: 1 << 40, Leased: 1<<40 - 1}}, 1000), 7, 1000<<40, 1000<<40-1000)
	for place := range 1000 {
		l := make([]api.Stripe, 1000)
		l[place] = api.Stripe{Epoch: 9, Ready: 3, Leased: 4}
		checkSum(t, l, 9, 3, 4)
	}
}

func TestSumOfRandomStripes(t *testing.T) {
	random := rand.New(rand.NewPCG(11, 3))
	for range 20000 {
		l := randomStripes(random, random.IntN(12))
		for epoch := -1; epoch < 4; epoch++ {
			ready, leased := 0, 0
			for _, s := range l {
				if s.Epoch == epoch && min(s.Seq, s.Ready, s.Leased) >= 0 && max(s.Seq, s.Ready, s.Leased) <= last {
					ready, leased = ready+s.Ready, leased+s.Leased
				}
			}
			checkSum(t, l, epoch, ready, leased)
		}
	}
}

// P11.3

// change begins and ends a change of a shard.
func change(t *testing.T, s api.Stripe, x api.Shard, epoch, limit int) api.Stripe {
	t.Helper()
	marked, e := stripe.Begin(s)
	if e != api.OK || stripe.Quiet([]api.Stripe{marked}) || stripe.Same([]api.Stripe{s}, []api.Stripe{marked}) {
		t.Fatalf("Begin(%+v) = %+v, %d", s, marked, e)
	}
	next, e := stripe.End(marked, x, epoch, limit)
	if e != api.OK || !stripe.Quiet([]api.Stripe{next}) || stripe.Same([]api.Stripe{s}, []api.Stripe{next}) {
		t.Fatalf("End(%+v, %+v, %d, %d) = %+v, %d", marked, x, epoch, limit, next, e)
	}
	return next
}

// Each change gives the counts of the shard and a Seq that there never was before.
func TestChanges(t *testing.T) {
	random := rand.New(rand.NewPCG(11, 4))
	s := api.Stripe{}
	met := map[int]bool{s.Seq: true}
	for range 5000 {
		epoch, limit := random.IntN(4), 1+random.IntN(8)
		x, ready, leased := randomShard(random, epoch, limit)
		s = change(t, s, x, epoch, limit)
		if met[s.Seq] || s.Epoch != epoch || s.Ready != ready || s.Leased != leased {
			t.Errorf("after a change of %+v in the epoch %d with the limit %d: %+v", x, epoch, limit, s)
		}
		met[s.Seq] = true
		if r, l := shard.Counts(x, epoch, limit); r != s.Ready || l != s.Leased {
			t.Errorf("Counts(%+v, %d, %d) = %d, %d, but the stripe is %+v", x, epoch, limit, r, l, s)
		}
		checkSum(t, []api.Stripe{s}, epoch, ready, leased)
	}
}

// A change that leaves the shard as it is gives another stripe all the same.
func TestChangeOfNothing(t *testing.T) {
	for seq := 0; seq < 100; seq += 2 {
		before := api.Stripe{Seq: seq, Epoch: 6, Ready: 3, Leased: 2}
		if after := change(t, before, busy(), 6, 2); after != (api.Stripe{Seq: seq + 2, Epoch: 6, Ready: 3, Leased: 2}) {
			t.Errorf("%+v becomes %+v", before, after)
		}
	}
}

// The last Seq is reached, and then there is no other one.
func TestChangesEnd(t *testing.T) {
	s := api.Stripe{Seq: 1<<40 - 100}
	for range 50 {
		s = change(t, s, busy(), 6, 2)
	}
	if s != (api.Stripe{Seq: 1 << 40, Epoch: 6, Ready: 3, Leased: 2}) {
		t.Errorf("the last stripe is %+v", s)
	}
	checkBegin(t, s, api.Stripe{}, api.ErrExhausted)
	checkSum(t, []api.Stripe{s}, 6, 3, 2)
}

// A change cannot begin twice, and cannot end without a beginning.
func TestChangesDoNotOverlap(t *testing.T) {
	marked, _ := stripe.Begin(api.Stripe{Seq: 4})
	checkBegin(t, marked, api.Stripe{}, api.ErrState)
	done, _ := stripe.End(marked, busy(), 6, 2)
	failsToEnd(t, done, busy(), 6, 2, api.ErrState)
}

// Rules

// R2: the lists of the arguments stay as they are, as does the memory behind them.
func TestArgumentsStay(t *testing.T) {
	random := rand.New(rand.NewPCG(11, 5))
	for range 1000 {
		a := randomStripes(random, 8)
		b := slices.Clone(a)
		x, _, _ := randomShard(random, 1, 2)
		x.Leases.L = append(x.Leases.L, api.Lease{Msg: msg(77, 1, 1), Deadline: 77})
		x.Leases.Heap = append(x.Leases.Heap, api.Due{Deadline: 77, ID: 77})
		cells, leases, heap := slices.Clone(x.Ready.Cells), slices.Clone(x.Leases.L), slices.Clone(x.Leases.Heap)
		y := x
		y.Leases.L, y.Leases.Heap = x.Leases.L[:len(leases)-1], x.Leases.Heap[:len(heap)-1]
		stripe.Quiet(a[:6])
		stripe.Same(a[:6], b[:6])
		stripe.Same(a[:6], a[:5])
		stripe.Sum(a[:6], 1)
		if _, e := stripe.End(api.Stripe{Seq: 1}, y, 1, 2); e != api.OK {
			t.Fatal(e)
		}
		if !slices.Equal(a, b) || !slices.Equal(x.Ready.Cells, cells) || !slices.Equal(x.Leases.L, leases) || !slices.Equal(x.Leases.Heap, heap) {
			t.Fatal("an argument was changed")
		}
	}
}

// R2 and R3: a result depends neither on what was done before, nor on whether an empty list is nil, nor on the room behind a list.
func TestEqualArguments(t *testing.T) {
	x, y := empty(), empty()
	y.Leases = api.Table{L: []api.Lease{}, Heap: []api.Due{}}
	for range 3 {
		checkBegin(t, api.Stripe{Seq: 4, Ready: 1}, api.Stripe{Seq: 5, Ready: 1}, api.OK)
		checkBegin(t, api.Stripe{Seq: 3}, api.Stripe{}, api.ErrState)
		checkEnd(t, api.Stripe{Seq: 5}, x, 1, 2, api.Stripe{Seq: 6, Epoch: 1}, api.OK)
		checkEnd(t, api.Stripe{Seq: 5}, y, 1, 2, api.Stripe{Seq: 6, Epoch: 1}, api.OK)
		checkEnd(t, api.Stripe{Seq: 5}, busy(), 6, 2, api.Stripe{Seq: 6, Epoch: 6, Ready: 3, Leased: 2}, api.OK)
		long := withSeqs(2, 4, 5, 6)
		checkSame(t, long[:2], withSeqs(2, 4), true)
		checkSum(t, long[:2], 1, 6, 10)
		if !stripe.Quiet(long[:2]) || stripe.Quiet(long) {
			t.Error("Quiet looks behind a list, or not far enough")
		}
	}
}

// R1 and R4: every function returns for all arguments, and with an error nothing else.
func TestAllArguments(t *testing.T) {
	for _, n := range numbers {
		for _, k := range numbers {
			s := api.Stripe{Seq: n, Epoch: k, Ready: n, Leased: k}
			if got, e := stripe.Begin(s); e != beginError(n) || e != api.OK && got != (api.Stripe{}) {
				t.Errorf("Begin(%+v) = %+v, %d", s, got, e)
			}
			m := api.Message{ID: n, Route: k, Epoch: n, Count: k, Gen: n, Sent: k}
			table := api.Table{L: []api.Lease{{Msg: m, Deadline: n}}, Heap: []api.Due{{Deadline: n, ID: k}}}
			many := api.Table{L: slices.Repeat(table.L, 1000), Heap: slices.Repeat(table.Heap, 1000)}
			for _, x := range []api.Shard{
				{}, {Live: true, Low: n, High: k}, busy(),
				{Live: true, Low: n, High: k, Ready: api.Ring{Cells: make([]api.Message, 3)}},
				{Live: true, High: 9, Ready: api.Ring{Cells: []api.Message{m}, Head: n, Size: k}},
				{Live: true, High: 9, Ready: api.Ring{Cells: []api.Message{m}, Size: 1}, Leases: table},
				{Low: n, High: k, Ready: api.Ring{Cells: make([]api.Message, 1000), Head: n, Size: k}, Leases: many},
				{Live: true, Low: n, High: k, Ready: api.Ring{Cells: make([]api.Message, 2)}, Leases: many},
			} {
				for _, seq := range []int{5, n} {
					if got, e := stripe.End(api.Stripe{Seq: seq}, x, n, k); e != api.OK && got != (api.Stripe{}) {
						t.Errorf("End(%d, %+v, %d, %d) = %+v, %d", seq, x, n, k, got, e)
					}
				}
			}
			l := slices.Repeat([]api.Stripe{s}, 1000)
			if stripe.Quiet(l) != (n&1 == 0) || !stripe.Same(l, l) {
				t.Errorf("Quiet or Same of %+v", s)
			}
			stripe.Sum(l, k)
		}
	}
}
