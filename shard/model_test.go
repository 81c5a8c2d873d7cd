package shard_test

import (
	"cmp"
	"math"
	"math/rand/v2"
	"slices"
	"strings"

	"shardqueue/api"
	"shardqueue/digest"
	"shardqueue/due"
	"shardqueue/message"
	"shardqueue/shard"
)

// extremes are numbers at which sums and comparisons are prone to go wrong.
var extremes = []int{math.MinInt, math.MinInt + 1, -1, 0, 1, 2, api.MaxEpoch, api.MaxClock - 1, api.MaxClock, api.MaxClock + 1, 1 << 32, math.MaxInt - 1, math.MaxInt}

// msg returns a valid message in which no field is zero, and which differs from those with other IDs in several of them.
func msg(id, route int) api.Message {
	return api.Message{ID: id, Route: route, Epoch: 2, Count: 1, Gen: 100 + id%1000, Sent: 128 + id%1000, Body: strings.Repeat("b", id%15+1)}
}

// handleOf returns the handle of a leased message. Its hint is no slot, because that does not matter.
func handleOf(m api.Message) api.Handle {
	return api.Handle{ID: m.ID, Gen: m.Gen, Route: m.Route, Hint: -7}
}

// model is a shard as plain lists: what is ready, in order, what is leased, in ascending order of the IDs, and the heap, which is kept with the functions of due.
type model struct {
	live                      bool
	low, high, capacity, head int
	ready                     []api.Message
	leased                    []api.Lease
	heap                      []api.Due
}

func modelOf(s api.Shard) model {
	m := model{live: s.Live, low: s.Low, high: s.High, capacity: len(s.Ready.Cells), head: s.Ready.Head}
	for i := range s.Ready.Size {
		m.ready = append(m.ready, s.Ready.Cells[(m.head+i)%m.capacity])
	}
	m.leased, m.heap = slices.Clone(s.Leases.L), slices.Clone(s.Leases.Heap)
	return m
}

func (m model) shard() api.Shard {
	s := api.Shard{Live: m.live, Low: m.low, High: m.high}
	s.Ready = api.Ring{Cells: make([]api.Message, m.capacity), Head: m.head, Size: len(m.ready)}
	for i, x := range m.ready {
		s.Ready.Cells[(m.head+i)%m.capacity] = x
	}
	s.Leases = api.Table{L: slices.Clone(m.leased), Heap: slices.Clone(m.heap)}
	return s
}

// span returns a model without messages.
func span(capacity, low, high int) model {
	return model{live: true, low: low, high: high, capacity: capacity}
}

// with returns the model with messages at the end of the deque.
func (m model) with(l ...api.Message) model {
	m.ready = slices.Concat(m.ready, l)
	return m
}

// leasing returns the model with one lease more.
func (m model) leasing(x api.Message, deadline int) model {
	m.leased = append(slices.Clone(m.leased), api.Lease{Msg: x, Deadline: deadline})
	slices.SortFunc(m.leased, func(a, b api.Lease) int { return cmp.Compare(a.Msg.ID, b.Msg.ID) })
	m.heap, _ = due.Push(m.heap, api.Due{Deadline: deadline, ID: x.ID})
	return m
}

// releasing returns the model without the lease of the message with an ID, and that lease.
func (m model) releasing(id int) (model, api.Lease) {
	var gone api.Lease
	var rest []api.Lease
	for _, l := range m.leased {
		if l.Msg.ID == id {
			gone = l
		} else {
			rest = append(rest, l)
		}
	}
	m.leased = rest
	m.heap, _ = due.Remove(m.heap, id)
	return m, gone
}

// inFront returns the model with a message at the beginning of the deque.
func (m model) inFront(x api.Message) model {
	m.head = (m.head + m.capacity - 1) % m.capacity
	m.ready = slices.Concat([]api.Message{x}, m.ready)
	return m
}

// split parts the deque into the first most messages that are wanted and all others.
func (m model) split(most int, wanted func(x api.Message) bool) (in, out []api.Message) {
	for _, x := range m.ready {
		if wanted(x) && len(in) < most {
			in = append(in, x)
		} else {
			out = append(out, x)
		}
	}
	return in, out
}

func (m model) size() int {
	return len(m.ready) + len(m.leased)
}

func (m model) ids() []int {
	var ids []int
	for _, x := range m.ready {
		ids = append(ids, x.ID)
	}
	for _, l := range m.leased {
		ids = append(ids, l.Msg.ID)
	}
	return ids
}

func (m model) holds(h api.Handle, now, epoch int) bool {
	for _, l := range m.leased {
		if h == (api.Handle{ID: l.Msg.ID, Gen: l.Msg.Gen, Route: l.Msg.Route, Hint: h.Hint}) {
			return l.Msg.Epoch >= epoch && now < l.Deadline
		}
	}
	return false
}

// arguments are those of all functions; each function gets some of them.
type arguments struct {
	m                                          api.Message
	h                                          api.Handle
	l                                          []api.Message
	other                                      api.Shard
	max, now, visibility, epoch, limit, k, mid int
}

// result is all that a function returns; most of it is zero.
type result struct {
	s, upper api.Shard
	messages []api.Message
	leases   []api.Lease
	ids      []int
	n        int
	e        api.Errno
}

func failure(e api.Errno) result {
	return result{e: e}
}

// function is a function of the package that returns a shard. The model tells what it returns for a live shard, if no number is out of range.
type function struct {
	name    string
	numbers string // those whose ranges it examines
	call    func(s api.Shard, a arguments) result
	model   func(m model, a arguments) result
}

var functions = []function{
	{"Put", "", func(s api.Shard, a arguments) result {
		x, e := shard.Put(s, a.m)
		return result{s: x, e: e}
	}, func(m model, a arguments) result {
		return m.put(a.m)
	}},
	{"Take", "max now visibility epoch limit", func(s api.Shard, a arguments) result {
		x, l, e := shard.Take(s, a.max, a.now, a.visibility, a.epoch, a.limit)
		return result{s: x, leases: l, e: e}
	}, model.take},
	{"Ack", "now epoch", func(s api.Shard, a arguments) result {
		x, e := shard.Ack(s, a.h, a.now, a.epoch)
		return result{s: x, e: e}
	}, model.ack},
	{"Nack", "now epoch limit", func(s api.Shard, a arguments) result {
		x, e := shard.Nack(s, a.h, a.now, a.epoch, a.limit)
		return result{s: x, e: e}
	}, model.nack},
	{"Change", "now epoch visibility", func(s api.Shard, a arguments) result {
		x, e := shard.Change(s, a.h, a.now, a.epoch, a.visibility)
		return result{s: x, e: e}
	}, model.change},
	{"Expire", "now epoch limit", func(s api.Shard, a arguments) result {
		x, ids, e := shard.Expire(s, a.now, a.epoch, a.limit)
		return result{s: x, ids: ids, e: e}
	}, model.expire},
	{"Clean", "epoch", func(s api.Shard, a arguments) result {
		x, n, e := shard.Clean(s, a.epoch)
		return result{s: x, n: n, e: e}
	}, model.clean},
	{"Detach", "", func(s api.Shard, a arguments) result {
		x, l, e := shard.Detach(s, a.k)
		return result{s: x, messages: l, e: e}
	}, model.detach},
	{"Absorb", "", func(s api.Shard, a arguments) result {
		x, e := shard.Absorb(s, a.l)
		return result{s: x, e: e}
	}, model.absorb},
	{"Divide", "", func(s api.Shard, a arguments) result {
		lower, upper, e := shard.Divide(s, a.mid)
		return result{s: lower, upper: upper, e: e}
	}, model.divide},
	{"Unite", "", func(s api.Shard, a arguments) result {
		x, e := shard.Unite(s, a.other)
		return result{s: x, e: e}
	}, model.unite},
	{"Bury", "epoch limit k", func(s api.Shard, a arguments) result {
		x, l, e := shard.Bury(s, a.k, a.epoch, a.limit)
		return result{s: x, messages: l, e: e}
	}, model.bury},
}

func (m model) put(x api.Message) result {
	switch e := message.Validate(x); {
	case e != api.OK:
		return failure(e)
	case x.Route < m.low || x.Route > m.high:
		return failure(api.ErrMoved)
	case m.size() == m.capacity:
		return failure(api.ErrFull)
	case slices.Contains(m.ids(), x.ID):
		return failure(api.ErrDuplicate)
	}
	return result{s: m.with(x).shard()}
}

func (m model) take(a arguments) result {
	if a.now+a.visibility > api.MaxClock {
		return failure(api.ErrExhausted)
	}
	in, out := m.split(a.max, func(x api.Message) bool { return x.Epoch >= a.epoch && x.Count < a.limit && x.Gen < api.MaxGen })
	m.ready = out
	var leases []api.Lease
	for _, x := range in {
		x.Count, x.Gen = x.Count+1, x.Gen+1
		leases = append(leases, api.Lease{Msg: x, Deadline: a.now + a.visibility})
		m = m.leasing(x, a.now+a.visibility)
	}
	return result{s: m.shard(), leases: leases}
}

func (m model) ack(a arguments) result {
	if !m.holds(a.h, a.now, a.epoch) {
		return failure(api.ErrInvalid)
	}
	m, _ = m.releasing(a.h.ID)
	return result{s: m.shard()}
}

func (m model) nack(a arguments) result {
	if !m.holds(a.h, a.now, a.epoch) {
		return failure(api.ErrInvalid)
	}
	m, gone := m.releasing(a.h.ID)
	if gone.Msg.Count < a.limit {
		return result{s: m.inFront(gone.Msg).shard()}
	}
	return result{s: m.with(gone.Msg).shard()}
}

func (m model) change(a arguments) result {
	if !m.holds(a.h, a.now, a.epoch) {
		return failure(api.ErrInvalid)
	}
	if a.now+a.visibility > api.MaxClock {
		return failure(api.ErrExhausted)
	}
	m, gone := m.releasing(a.h.ID)
	return result{s: m.leasing(gone.Msg, a.now+a.visibility).shard()}
}

// expire takes the first one of all that lapsed, as long as there is one.
func (m model) expire(a arguments) result {
	var ids []int
	for {
		first := api.Lease{Deadline: a.now + 1}
		for _, l := range m.leased {
			if l.Deadline < first.Deadline && l.Msg.Epoch >= a.epoch {
				first = l
			}
		}
		if first.Msg.ID == 0 {
			return result{s: m.shard(), ids: ids}
		}
		m, _ = m.releasing(first.Msg.ID)
		m = m.with(first.Msg)
		ids = append(ids, first.Msg.ID)
	}
}

func (m model) clean(a arguments) result {
	before := m.size()
	_, m.ready = m.split(before, func(x api.Message) bool { return x.Epoch < a.epoch })
	for _, l := range m.leased {
		if l.Msg.Epoch < a.epoch {
			m, _ = m.releasing(l.Msg.ID)
		}
	}
	return result{s: m.shard(), n: before - m.size()}
}

func (m model) detach(a arguments) result {
	if a.k < 0 || a.k > len(m.ready) {
		return failure(api.ErrRange)
	}
	stay := len(m.ready) - a.k
	l := m.ready[stay:]
	m.ready = m.ready[:stay]
	return result{s: m.shard(), messages: l}
}

func (m model) absorb(a arguments) result {
	if m.size()+len(a.l) > m.capacity {
		return failure(api.ErrFull)
	}
	for _, x := range a.l {
		x.Route = digest.Into(x.Route, m.low, m.high)
		r := m.put(x)
		if r.e != api.OK {
			return r
		}
		m = modelOf(r.s)
	}
	return result{s: m.shard()}
}

func (m model) divide(a arguments) result {
	if a.mid < m.low || a.mid >= m.high {
		return failure(api.ErrRange)
	}
	lower, upper := span(m.capacity, m.low, a.mid), span(m.capacity, a.mid+1, m.high)
	for _, x := range m.ready {
		if x.Route <= a.mid {
			lower = lower.with(x)
		} else {
			upper = upper.with(x)
		}
	}
	for _, l := range m.leased {
		if l.Msg.Route <= a.mid {
			lower = lower.leasing(l.Msg, l.Deadline)
		} else {
			upper = upper.leasing(l.Msg, l.Deadline)
		}
	}
	return result{s: lower.shard(), upper: upper.shard()}
}

// unite returns the united shard; the other one must be live.
func (m model) unite(a arguments) result {
	o := modelOf(a.other)
	switch {
	case m.high == o.low-1:
		m.high = o.high
	case o.high == m.low-1:
		m.low = o.low
	default:
		return failure(api.ErrState)
	}
	if m.size()+o.size() > m.capacity {
		return failure(api.ErrFull)
	}
	for _, id := range o.ids() {
		if slices.Contains(m.ids(), id) {
			return failure(api.ErrDuplicate)
		}
	}
	m = m.with(o.ready...)
	for _, l := range o.leased {
		m = m.leasing(l.Msg, l.Deadline)
	}
	return result{s: m.shard()}
}

func (m model) bury(a arguments) result {
	in, out := m.split(a.k, func(x api.Message) bool { return x.Count >= a.limit && x.Epoch >= a.epoch })
	m.ready = out
	return result{s: m.shard(), messages: in}
}

func sameShard(a, b api.Shard) bool {
	return a.Live == b.Live && a.Low == b.Low && a.High == b.High &&
		slices.Equal(a.Ready.Cells, b.Ready.Cells) && a.Ready.Head == b.Ready.Head && a.Ready.Size == b.Ready.Size &&
		slices.Equal(a.Leases.L, b.Leases.L) && slices.Equal(a.Leases.Heap, b.Leases.Heap)
}

func same(a, b result) bool {
	return sameShard(a.s, b.s) && sameShard(a.upper, b.upper) && slices.Equal(a.messages, b.messages) &&
		slices.Equal(a.leases, b.leases) && slices.Equal(a.ids, b.ids) && a.n == b.n && a.e == b.e
}

func clone(s api.Shard) api.Shard {
	s.Ready.Cells = slices.Clone(s.Ready.Cells)
	s.Leases.L, s.Leases.Heap = slices.Clone(s.Leases.L), slices.Clone(s.Leases.Heap)
	return s
}

func cloneResult(r result) result {
	r.s, r.upper = clone(r.s), clone(r.upper)
	r.messages, r.leases, r.ids = slices.Clone(r.messages), slices.Clone(r.leases), slices.Clone(r.ids)
	return r
}

// randomModel returns a live shard with some of the IDs up to ids, of which some are ready and some are leased.
func randomModel(random *rand.Rand, low, high, ids int) model {
	m := span(1+random.IntN(api.MaxCapacity), low, high)
	m.head = random.IntN(m.capacity)
	stored := min(random.IntN(m.capacity+1), ids)
	for _, id := range random.Perm(ids)[:stored] {
		x := msg(1+id, low+random.IntN(high-low+1))
		x.Epoch, x.Count = random.IntN(3), random.IntN(4)
		if random.IntN(8) == 0 {
			x.Gen = api.MaxGen - random.IntN(2)
		}
		switch random.IntN(10) {
		case 0:
			m = m.leasing(x, api.MaxClock-random.IntN(3))
		case 1, 2, 3, 4:
			m = m.leasing(x, random.IntN(8))
		default:
			m = m.with(x)
		}
	}
	return m
}

// randomArguments returns arguments with which each function succeeds often, and fails in all its ways sometimes.
func randomArguments(random *rand.Rand, m model) arguments {
	a := arguments{
		m: msg(1+random.IntN(30), m.low-random.IntN(2)+random.IntN(m.high-m.low+2)),
		h: api.Handle{ID: random.IntN(16), Gen: 100 + random.IntN(16), Route: m.low, Hint: random.IntN(9) - 2},
		l: make([]api.Message, random.IntN(4)), max: 1 + random.IntN(api.MaxEntries), now: random.IntN(8), visibility: random.IntN(5),
		epoch: random.IntN(4), limit: 1 + random.IntN(4), k: random.IntN(m.capacity+2) - 1, mid: m.low - 1 + random.IntN(m.high-m.low+2),
	}
	for i := range a.l {
		a.l[i] = msg(1+random.IntN(60), random.IntN(api.Space))
	}
	if random.IntN(8) == 0 {
		a.m.Sent = -1
		a.l = append(a.l, a.m)
	}
	if random.IntN(8) == 0 {
		a.now, a.visibility = api.MaxClock-random.IntN(3), random.IntN(5)
	}
	if len(m.leased) > 0 && random.IntN(4) > 0 {
		l := m.leased[random.IntN(len(m.leased))]
		if l.Deadline > 100 {
			a.now = l.Deadline - random.IntN(3)
		}
		a.h = handleOf(l.Msg)
		a.h.Gen += random.IntN(9) / 8
		a.h.Route -= random.IntN(9) / 8
	}
	low := []int{m.high + 1, m.high + 1, m.low - 9, m.low - 9, m.high + 2, m.low - 10, m.low}[random.IntN(7)]
	o := randomModel(random, low, low+8, 40)
	o.ready = o.ready[:random.IntN(len(o.ready)+1)]
	a.other = o.shard()
	return a
}
