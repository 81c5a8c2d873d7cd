package dead_test

import (
	"math"
	"math/rand/v2"
	"slices"
	"strings"
	"testing"

	"shardqueue/api"
	"shardqueue/dead"
)

// extremes are numbers at which sums and comparisons are prone to go wrong.
var extremes = []int{math.MinInt, math.MinInt + 1, -25, -1, 0, 1, 2, 24, 25, api.MaxEpoch - 1, api.MaxEpoch, api.MaxEpoch + 1, api.MaxID, api.MaxID + 1, 1 << 32, math.MaxInt - 1, math.MaxInt}

// long is a message whose error is ErrTooLong; that of the zero message is ErrRange.
var long = api.Message{ID: 70, Body: strings.Repeat("b", api.MaxBody+1)}

// junk is what foreign memory is filled with.
var junk = api.Message{ID: 77, Route: 7, Gen: 7, Body: "junk"}

// msg returns a valid message of an epoch, in which no other field is zero, and which differs from those with other IDs in several of them.
func msg(id, epoch int) api.Message {
	return api.Message{ID: id, Route: 40000 + id%1000, Epoch: epoch, Count: 3, Gen: 100 + id%1000, Sent: 128 + id%1000, Body: strings.Repeat("b", id%15+1)}
}

// msgs returns messages of the epoch 2.
func msgs(ids ...int) []api.Message {
	var l []api.Message
	for _, id := range ids {
		l = append(l, msg(id, 2))
	}
	return l
}

// numbered returns messages of the epoch 2 with the IDs first, first+1 and so on.
func numbered(first, size int) []api.Message {
	var l []api.Message
	for i := range size {
		l = append(l, msg(first+i, 2))
	}
	return l
}

// inEpochs returns messages with the IDs 1, 2 and so on, of these epochs.
func inEpochs(epochs ...int) []api.Message {
	var l []api.Message
	for i, epoch := range epochs {
		l = append(l, msg(i+1, epoch))
	}
	return l
}

// epochsOf returns so many epochs from 0 to 2, told by a number.
func epochsOf(n, size int) []int {
	epochs := make([]int, size)
	for i := range epochs {
		epochs[i] = n % 3
		n /= 3
	}
	return epochs
}

func ids(l []api.Message) []int {
	var all []int
	for _, m := range l {
		all = append(all, m.ID)
	}
	return all
}

func same(a, b api.Dead) bool {
	return a.Cap == b.Cap && slices.Equal(a.L, b.L)
}

func isEmpty(d api.Dead) bool {
	return same(d, api.Dead{})
}

// checkPut tests that a store with these messages comes out of Put, or this error.
func checkPut(t *testing.T, d api.Dead, l, want []api.Message, wanted api.Errno) {
	t.Helper()
	result := api.Dead{Cap: d.Cap, L: want}
	if wanted != api.OK {
		result = api.Dead{}
	}
	if got, e := dead.Put(d, l); e != wanted || !same(got, result) {
		t.Errorf("Put(%+v, %+v) = %+v, %d, want %+v, %d", d, l, got, e, result, wanted)
	}
}

// checkTake tests which messages Take removes and which ones it leaves.
func checkTake(t *testing.T, d api.Dead, k, epoch int, taken, left []api.Message) {
	t.Helper()
	if got, l, e := dead.Take(d, k, epoch); e != api.OK || !slices.Equal(l, taken) || !same(got, api.Dead{Cap: d.Cap, L: left}) {
		t.Errorf("Take(%+v, %d, %d) = %+v, %+v, %d, want %+v and %+v", d, k, epoch, got, l, e, left, taken)
	}
}

// checkClean tests how many messages Clean removes and which ones it leaves.
func checkClean(t *testing.T, d api.Dead, epoch, removed int, left []api.Message) {
	t.Helper()
	if got, n, e := dead.Clean(d, epoch); e != api.OK || n != removed || !same(got, api.Dead{Cap: d.Cap, L: left}) {
		t.Errorf("Clean(%+v, %d) = %+v, %d, %d, want %+v and %d", d, epoch, got, n, e, left, removed)
	}
}

// failsToTake tests that Take returns an error, and nothing else.
func failsToTake(t *testing.T, d api.Dead, k, epoch int, want api.Errno) {
	t.Helper()
	if got, l, e := dead.Take(d, k, epoch); e != want || !isEmpty(got) || len(l) != 0 {
		t.Errorf("Take(%+v, %d, %d) = %+v, %+v, %d, want %d", d, k, epoch, got, l, e, want)
	}
}

// failsToClean tests that Clean returns an error, and nothing else.
func failsToClean(t *testing.T, d api.Dead, epoch int, want api.Errno) {
	t.Helper()
	if got, n, e := dead.Clean(d, epoch); e != want || !isEmpty(got) || n != 0 {
		t.Errorf("Clean(%+v, %d) = %+v, %d, %d, want %d", d, epoch, got, n, e, want)
	}
}

// P8.1

func TestNew(t *testing.T) {
	for n := 1; n <= 24; n++ {
		if d, e := dead.New(n); e != api.OK || !same(d, api.Dead{Cap: n}) || dead.Validate(d) != api.OK || dead.Room(d) != n {
			t.Errorf("New(%d) = %+v, %d", n, d, e)
		}
	}
	for _, n := range []int{0, -1, -24, 25, 1000, math.MinInt, math.MinInt + 1, math.MaxInt - 1, math.MaxInt, 1<<32 + 1} {
		if d, e := dead.New(n); e != api.ErrRange || !isEmpty(d) {
			t.Errorf("New(%d) = %+v, %d, want %d", n, d, e, api.ErrRange)
		}
	}
}

// broken is a store that is not valid, with its error.
type broken struct {
	name string
	d    api.Dead
	want api.Errno
}

func brokenStores() []broken {
	all := []broken{
		{"zero", api.Dead{}, api.ErrRange},
		{"no capacity for a message", api.Dead{L: msgs(1)}, api.ErrRange},
		{"a capacity that is too great", api.Dead{Cap: 25}, api.ErrRange},
		{"a capacity that is too great for its messages", api.Dead{Cap: 25, L: numbered(1, 25)}, api.ErrRange},
		{"a great capacity for many messages", api.Dead{Cap: 1000, L: numbered(1, 1000)}, api.ErrRange},

		{"2 messages for 1", api.Dead{Cap: 1, L: msgs(1, 2)}, api.ErrTooLong},
		{"12 messages for 11", api.Dead{Cap: 11, L: numbered(1, 12)}, api.ErrTooLong},
		{"25 messages for 24", api.Dead{Cap: 24, L: numbered(1, 25)}, api.ErrTooLong},
		{"1000 messages for 24", api.Dead{Cap: 24, L: numbered(1, 1000)}, api.ErrTooLong},

		{"a zero message", api.Dead{Cap: 1, L: make([]api.Message, 1)}, api.ErrRange},
		{"a zero message behind another one", api.Dead{Cap: 3, L: []api.Message{msg(1, 2), {}}}, api.ErrRange},
		{"an ID that is too great", api.Dead{Cap: 3, L: []api.Message{{ID: api.MaxID + 1}}}, api.ErrRange},
		{"a long body", api.Dead{Cap: 3, L: []api.Message{long}}, api.ErrTooLong},
		{"a long body at the end", api.Dead{Cap: 3, L: []api.Message{msg(1, 2), msg(2, 2), long}}, api.ErrTooLong},

		{"the same ID twice", api.Dead{Cap: 2, L: msgs(5, 5)}, api.ErrDuplicate},
		{"the same ID at both ends", api.Dead{Cap: 4, L: msgs(5, 6, 7, 5)}, api.ErrDuplicate},
		{"the same ID at the end", api.Dead{Cap: 24, L: append(numbered(1, 23), msg(23, 2))}, api.ErrDuplicate},
		{"the same ID in different messages", api.Dead{Cap: 24, L: []api.Message{msg(5, 2), {ID: 5}}}, api.ErrDuplicate},
		{"the same ID in different epochs", api.Dead{Cap: 24, L: []api.Message{msg(5, 0), msg(5, 1)}}, api.ErrDuplicate},
	}
	for _, n := range []int{math.MinInt, math.MinInt + 1, -24, -1, math.MaxInt - 1, math.MaxInt} {
		all = append(all, broken{"an extreme capacity", api.Dead{Cap: n}, api.ErrRange}, broken{"an extreme capacity for messages", api.Dead{Cap: n, L: msgs(1, 2)}, api.ErrRange})
	}
	return append(all, doublyBroken()...)
}

// doublyBroken returns stores with several errors.
func doublyBroken() []broken {
	return []broken{
		{"no capacity for a long body", api.Dead{L: []api.Message{long}}, api.ErrRange},
		{"no capacity for the same ID twice", api.Dead{L: msgs(1, 1)}, api.ErrRange},
		{"a capacity that is too great for more messages", api.Dead{Cap: 25, L: numbered(1, 26)}, api.ErrRange},
		{"a zero message too many", api.Dead{Cap: 1, L: make([]api.Message, 2)}, api.ErrTooLong},
		{"an ID too many that is not new", api.Dead{Cap: 1, L: msgs(1, 1)}, api.ErrTooLong},
		{"a message too many behind a zero one", api.Dead{Cap: 1, L: []api.Message{{}, msg(1, 2)}}, api.ErrTooLong},
		{"a long body before a zero message", api.Dead{Cap: 2, L: []api.Message{long, {}}}, api.ErrTooLong},
		{"a zero message before a long body", api.Dead{Cap: 2, L: []api.Message{{}, long}}, api.ErrRange},
		{"the same ID twice before a long body", api.Dead{Cap: 3, L: []api.Message{msg(1, 2), msg(1, 2), long}}, api.ErrTooLong},
		{"the same ID twice before a zero message", api.Dead{Cap: 3, L: []api.Message{msg(1, 2), msg(1, 2), {}}}, api.ErrRange},
		{"a long body twice", api.Dead{Cap: 3, L: []api.Message{long, long}}, api.ErrTooLong},
		{"a zero message twice", api.Dead{Cap: 3, L: make([]api.Message, 2)}, api.ErrRange},
	}
}

func TestValidate(t *testing.T) {
	for _, c := range brokenStores() {
		if e := dead.Validate(c.d); e != c.want {
			t.Errorf("%s: Validate(%+v) = %d, want %d", c.name, c.d, e, c.want)
		}
	}
}

func TestValidateEachSize(t *testing.T) {
	for capacity := -1; capacity <= 26; capacity++ {
		for size := range 30 {
			want := api.OK
			if capacity < 1 || capacity > 24 {
				want = api.ErrRange
			} else if size > capacity {
				want = api.ErrTooLong
			}
			d := api.Dead{Cap: capacity, L: numbered(1, size)}
			if e := dead.Validate(d); e != want {
				t.Errorf("Validate with the capacity %d and %d messages = %d, want %d", capacity, size, e, want)
			}
		}
	}
}

// Each place of each size is examined, and each one is compared with all before it.
func TestValidateEachPlace(t *testing.T) {
	for size := 1; size <= 24; size++ {
		for _, capacity := range []int{size, 24} {
			for i := range size {
				for _, c := range []struct {
					m    api.Message
					want api.Errno
				}{{api.Message{}, api.ErrRange}, {long, api.ErrTooLong}} {
					d := api.Dead{Cap: capacity, L: numbered(1, size)}
					d.L[i] = c.m
					if e := dead.Validate(d); e != c.want {
						t.Errorf("Validate(%+v) = %d, want %d", d, e, c.want)
					}
				}
				for j := range i {
					d := api.Dead{Cap: capacity, L: numbered(1, size)}
					d.L[i].ID = j + 1
					if e := dead.Validate(d); e != api.ErrDuplicate {
						t.Errorf("Validate(%+v) = %d, want %d", d, e, api.ErrDuplicate)
					}
				}
			}
		}
	}
}

// A store may hold any valid message: in any order of the IDs, of any epoch, and not even delivered.
func TestValidateAcceptsAllMessages(t *testing.T) {
	l := []api.Message{{ID: api.MaxID}, {ID: 1}, msg(9, 7), {ID: 8, Body: strings.Repeat("b", api.MaxBody)}, {ID: 2, Route: api.Space - 1, Epoch: api.MaxEpoch, Count: api.MaxLimit, Gen: api.MaxGen, Sent: api.MaxClock}, msg(10, 0), msg(3, 9)}
	for _, d := range []api.Dead{{Cap: 7, L: l}, {Cap: 24, L: l}, {Cap: 1}, {Cap: 24}, {Cap: 24, L: []api.Message{}}} {
		if e := dead.Validate(d); e != api.OK {
			t.Errorf("Validate(%+v) = %d", d, e)
		}
	}
}

func TestRoom(t *testing.T) {
	for capacity := 1; capacity <= 24; capacity++ {
		for size := range capacity + 1 {
			d := api.Dead{Cap: capacity, L: numbered(1, size)}
			if n := dead.Room(d); n != capacity-size {
				t.Errorf("Room with the capacity %d and %d messages = %d", capacity, size, n)
			}
		}
	}
	for _, c := range brokenStores() {
		if n := dead.Room(c.d); n != 0 {
			t.Errorf("%s: Room(%+v) = %d", c.name, c.d, n)
		}
	}
}

// Messages need room whether they are purged or not.
func TestRoomOfPurgedMessages(t *testing.T) {
	if n := dead.Room(api.Dead{Cap: 5, L: inEpochs(0, api.MaxEpoch, 0)}); n != 2 {
		t.Errorf("Room = %d", n)
	}
}

// The error of the store comes first, whatever else is wrong.
func TestErrorOfTheStoreComesFirst(t *testing.T) {
	for _, c := range brokenStores() {
		for _, l := range [][]api.Message{nil, msgs(90), msgs(1), msgs(5), {{}}, {long}, msgs(90, 90), numbered(100, 1000)} {
			checkPut(t, c.d, l, nil, c.want)
		}
		for _, epoch := range extremes {
			for _, k := range extremes {
				failsToTake(t, c.d, k, epoch, c.want)
			}
			failsToClean(t, c.d, epoch, c.want)
		}
	}
}

// P8.2

// The example of the chapter.
func TestPutIntoAFullStore(t *testing.T) {
	d, _ := dead.New(1)
	d, e := dead.Put(d, msgs(1))
	if e != api.OK {
		t.Fatal(e)
	}
	checkPut(t, d, msgs(2), nil, api.ErrFull)
}

func TestPut(t *testing.T) {
	for capacity := 1; capacity <= 24; capacity++ {
		for size := range capacity + 1 {
			d := api.Dead{Cap: capacity, L: numbered(50, size)}
			for more := range capacity + 3 {
				// The IDs that are added are less than those that are there.
				l := numbered(1, more)
				if size+more > capacity {
					checkPut(t, d, l, nil, api.ErrFull)
				} else {
					checkPut(t, d, l, append(slices.Clone(d.L), l...), api.OK)
				}
			}
			checkPut(t, d, numbered(1, 1000), nil, api.ErrFull)
		}
	}
}

// What is put stays as it is, even if it is purged or was never delivered.
func TestPutOfAllMessages(t *testing.T) {
	for _, m := range []api.Message{{ID: 1}, {ID: api.MaxID}, msg(9, 0), {ID: 8, Body: strings.Repeat("b", api.MaxBody)}, {ID: 2, Route: api.Space - 1, Epoch: api.MaxEpoch, Count: api.MaxLimit, Gen: api.MaxGen, Sent: api.MaxClock}} {
		checkPut(t, api.Dead{Cap: 2, L: msgs(5)}, []api.Message{m}, []api.Message{msg(5, 2), m}, api.OK)
	}
}

func TestPutErrors(t *testing.T) {
	for _, c := range []struct {
		name string
		l    []api.Message
		want api.Errno
	}{
		{"too many", msgs(1, 2, 3, 4), api.ErrFull},
		{"a zero message", []api.Message{{}}, api.ErrRange},
		{"a zero message at the end", []api.Message{msg(1, 2), msg(2, 2), {}}, api.ErrRange},
		{"an ID that is too great", []api.Message{{ID: api.MaxID + 1}}, api.ErrRange},
		{"a long body", []api.Message{long}, api.ErrTooLong},
		{"a long body at the end", []api.Message{msg(1, 2), msg(2, 2), long}, api.ErrTooLong},
		{"the first one in the store", msgs(50), api.ErrDuplicate},
		{"the last one in the store", msgs(1, 2, 52), api.ErrDuplicate},
		{"the same ID in another message", []api.Message{{ID: 51}}, api.ErrDuplicate},
		{"the same ID in another epoch", []api.Message{msg(51, 3)}, api.ErrDuplicate},
		{"twice the same one", msgs(1, 1), api.ErrDuplicate},
		{"the same ID at both ends", []api.Message{msg(1, 2), msg(2, 2), {ID: 1}}, api.ErrDuplicate},

		{"too many zero messages", make([]api.Message, 4), api.ErrFull},
		{"too many long bodies", []api.Message{long, long, long, long}, api.ErrFull},
		{"too many of those in the store", msgs(50, 51, 52, 50), api.ErrFull},
		{"too many of the same", msgs(1, 1, 1, 1), api.ErrFull},
		{"a zero message before a long body", []api.Message{msg(1, 2), {}, long}, api.ErrRange},
		{"a long body before a zero message", []api.Message{msg(1, 2), long, {}}, api.ErrTooLong},
		{"one in the store before a zero message", []api.Message{msg(50, 2), {}}, api.ErrRange},
		{"one in the store before a long body", []api.Message{msg(50, 2), long}, api.ErrTooLong},
		{"twice the same one before a zero message", []api.Message{msg(1, 2), msg(1, 2), {}}, api.ErrRange},
		{"twice the same one before a long body", []api.Message{msg(1, 2), msg(1, 2), long}, api.ErrTooLong},
		{"one in the store that is not valid", []api.Message{{ID: 50, Sent: -1}}, api.ErrRange},
		{"one in the store, and twice the same one", msgs(1, 50, 1), api.ErrDuplicate},
	} {
		if got, e := dead.Put(api.Dead{Cap: 6, L: msgs(50, 51, 52)}, c.l); e != c.want || !isEmpty(got) {
			t.Errorf("%s: Put = %+v, %d, want %d", c.name, got, e, c.want)
		}
	}
}

// Each message is compared with each one in the store and with each one before it.
func TestPutOfEachIDThatIsThere(t *testing.T) {
	for size := range 24 {
		for more := 1; size+more <= 24; more++ {
			for place := range more {
				for id := range size + place {
					l := numbered(size+1, more)
					l[place].ID = id + 1
					checkPut(t, api.Dead{Cap: 24, L: numbered(1, size)}, l, nil, api.ErrDuplicate)
				}
			}
		}
	}
}

func TestPutOfNothing(t *testing.T) {
	for _, l := range [][]api.Message{nil, {}} {
		for size := range 4 {
			d := api.Dead{Cap: 3, L: numbered(1, size)}
			checkPut(t, d, l, d.L, api.OK)
		}
	}
}

func TestTake(t *testing.T) {
	l := inEpochs(3, 1, 2, 3, 1, 2)
	for _, c := range []struct {
		k, epoch    int
		taken, left []int
	}{
		{0, 0, nil, []int{1, 2, 3, 4, 5, 6}}, {0, 2, nil, []int{1, 2, 3, 4, 5, 6}}, {0, 9, nil, []int{1, 2, 3, 4, 5, 6}},
		{1, 0, []int{1}, []int{2, 3, 4, 5, 6}}, {2, 1, []int{1, 2}, []int{3, 4, 5, 6}},
		{5, 1, []int{1, 2, 3, 4, 5}, []int{6}}, {6, 1, []int{1, 2, 3, 4, 5, 6}, nil}, {7, 1, []int{1, 2, 3, 4, 5, 6}, nil},
		{1, 2, []int{1}, []int{2, 3, 4, 5, 6}}, {2, 2, []int{1, 3}, []int{2, 4, 5, 6}}, {3, 2, []int{1, 3, 4}, []int{2, 5, 6}},
		{4, 2, []int{1, 3, 4, 6}, []int{2, 5}}, {5, 2, []int{1, 3, 4, 6}, []int{2, 5}}, {math.MaxInt, 2, []int{1, 3, 4, 6}, []int{2, 5}},
		{1, 3, []int{1}, []int{2, 3, 4, 5, 6}}, {2, 3, []int{1, 4}, []int{2, 3, 5, 6}}, {24, 3, []int{1, 4}, []int{2, 3, 5, 6}},
		{1, 4, nil, []int{1, 2, 3, 4, 5, 6}}, {25, api.MaxEpoch, nil, []int{1, 2, 3, 4, 5, 6}},
	} {
		got, taken, e := dead.Take(api.Dead{Cap: 7, L: l}, c.k, c.epoch)
		if e != api.OK || got.Cap != 7 || !slices.Equal(ids(taken), c.taken) || !slices.Equal(ids(got.L), c.left) {
			t.Errorf("Take of %d in %d = %v, %v, %d, want %v, %v", c.k, c.epoch, ids(got.L), ids(taken), e, c.left, c.taken)
		}
	}
}

// modelTake returns which messages Take removes and which ones it leaves.
func modelTake(l []api.Message, k, epoch int) (taken, left []api.Message) {
	left = slices.Clone(l)
	for len(taken) < k {
		i := slices.IndexFunc(left, func(m api.Message) bool { return m.Epoch >= epoch })
		if i < 0 {
			break
		}
		taken = append(taken, left[i])
		left = slices.Delete(left, i, i+1)
	}
	return taken, left
}

// modelClean returns which messages Clean leaves.
func modelClean(l []api.Message, epoch int) []api.Message {
	return slices.DeleteFunc(slices.Clone(l), func(m api.Message) bool { return m.Epoch < epoch })
}

// eachSmallStore calls f with each store of up to 6 messages of the epochs 0 to 2.
func eachSmallStore(f func(d api.Dead)) {
	power := 1
	for size := range 7 {
		for n := range power {
			f(api.Dead{Cap: max(size, 1) + n%3, L: inEpochs(epochsOf(n, size)...)})
		}
		power *= 3
	}
}

func TestTakeAndCleanOfEachSmallStore(t *testing.T) {
	eachSmallStore(func(d api.Dead) {
		for epoch := range 4 {
			for k := range len(d.L) + 2 {
				taken, left := modelTake(d.L, k, epoch)
				checkTake(t, d, k, epoch, taken, left)
			}
			left := modelClean(d.L, epoch)
			checkClean(t, d, epoch, len(d.L)-len(left), left)
		}
	})
}

func TestTakeAndCleanOfEachSize(t *testing.T) {
	for size := range 25 {
		d := api.Dead{Cap: 24, L: inEpochs(epochsOf(987654321987, size)...)}
		for epoch := range 4 {
			for k := range 27 {
				taken, left := modelTake(d.L, k, epoch)
				checkTake(t, d, k, epoch, taken, left)
			}
			left := modelClean(d.L, epoch)
			checkClean(t, d, epoch, size-len(left), left)
		}
	}
}

// How often a message was delivered does not matter, nor when it was sent.
func TestTakeOfAllMessages(t *testing.T) {
	l := []api.Message{{ID: 9}, {ID: 3, Count: api.MaxLimit, Gen: api.MaxGen}, {ID: 5, Sent: api.MaxClock}, {ID: api.MaxID, Route: api.Space - 1}}
	checkTake(t, api.Dead{Cap: 4, L: l}, 4, 0, l, nil)
	checkTake(t, api.Dead{Cap: 4, L: l}, 2, 0, l[:2], l[2:])
	checkTake(t, api.Dead{Cap: 4, L: l}, 4, 1, nil, l)
	checkClean(t, api.Dead{Cap: 4, L: l}, 0, 0, l)
	checkClean(t, api.Dead{Cap: 4, L: l}, 1, 4, nil)
}

func TestClean(t *testing.T) {
	l := inEpochs(3, 1, 2, 3, 1, 2)
	for _, c := range []struct {
		epoch, removed int
		left           []int
	}{
		{0, 0, []int{1, 2, 3, 4, 5, 6}}, {1, 0, []int{1, 2, 3, 4, 5, 6}}, {2, 2, []int{1, 3, 4, 6}}, {3, 4, []int{1, 4}}, {4, 6, nil}, {api.MaxEpoch, 6, nil},
	} {
		got, n, e := dead.Clean(api.Dead{Cap: 7, L: l}, c.epoch)
		if e != api.OK || got.Cap != 7 || n != c.removed || !slices.Equal(ids(got.L), c.left) {
			t.Errorf("Clean in %d = %v, %d, %d, want %v, %d", c.epoch, ids(got.L), n, e, c.left, c.removed)
		}
	}
}

func TestRangesOfNumbers(t *testing.T) {
	d := api.Dead{Cap: 3, L: []api.Message{msg(1, api.MaxEpoch), msg(2, api.MaxEpoch-1), msg(3, 0)}}
	for _, epoch := range extremes {
		isEpoch := epoch >= 0 && epoch <= 65536
		for _, k := range extremes {
			if !isEpoch || k < 0 {
				failsToTake(t, d, k, epoch, api.ErrRange)
				failsToTake(t, api.Dead{Cap: 1}, k, epoch, api.ErrRange)
				continue
			}
			taken, left := modelTake(d.L, k, epoch)
			checkTake(t, d, k, epoch, taken, left)
			checkTake(t, api.Dead{Cap: 1}, k, epoch, nil, nil)
		}
		if !isEpoch {
			failsToClean(t, d, epoch, api.ErrRange)
			failsToClean(t, api.Dead{Cap: 1}, epoch, api.ErrRange)
			continue
		}
		left := modelClean(d.L, epoch)
		checkClean(t, d, epoch, 3-len(left), left)
		checkClean(t, api.Dead{Cap: 1}, epoch, 0, nil)
	}
}

// P8.3

// In long runs, messages come out of the store in the order in which they went in, each one once, and are as they were.
func TestTakenInTheSameOrder(t *testing.T) {
	random := rand.New(rand.NewPCG(8, 3))
	for capacity := 1; capacity <= 24; capacity++ {
		d, _ := dead.New(capacity)
		var in, out []api.Message
		next := 1
		for range 300 {
			if more := random.IntN(capacity + 1); random.IntN(2) == 0 {
				l := numbered(next, more)
				got, e := dead.Put(d, l)
				if more > capacity-len(d.L) {
					if e != api.ErrFull {
						t.Errorf("Put of %d into %d of %d: %d", more, len(d.L), capacity, e)
					}
					continue
				}
				d, in, next = got, append(in, l...), next+more
				continue
			}
			k := random.IntN(capacity + 1)
			before := len(d.L)
			got, l, e := dead.Take(d, k, random.IntN(3))
			if e != api.OK || len(l) != min(k, before) {
				t.Errorf("Take of %d from %d = %+v, %d", k, before, l, e)
			}
			d, out = got, append(out, l...)
		}
		_, rest, _ := dead.Take(d, capacity, 0)
		if out = append(out, rest...); !slices.Equal(in, out) {
			t.Errorf("capacity %d: %v was put, %v taken", capacity, ids(in), ids(out))
		}
	}
}

// In random runs with purges, the store is what the model says, and each message is taken, cleaned or there.
func TestRandomRuns(t *testing.T) {
	random := rand.New(rand.NewPCG(8, 2))
	for range 300 {
		capacity := 1 + random.IntN(24)
		d, _ := dead.New(capacity)
		var l []api.Message // what the store has
		epoch := 0
		for range 100 {
			if random.IntN(10) == 0 {
				epoch++
			}
			switch random.IntN(5) {
			case 0, 1:
				add := randomMessages(random, epoch)
				want := modelPut(capacity, l, add)
				joined := slices.Concat(l, add)
				checkPut(t, d, add, joined, want)
				if want == api.OK {
					d, _ = dead.Put(d, add)
					l = joined
				}
			case 2, 3:
				k := random.IntN(6)
				taken, left := modelTake(l, k, epoch)
				checkTake(t, d, k, epoch, taken, left)
				d, _, _ = dead.Take(d, k, epoch)
				l = left
			default:
				left := modelClean(l, epoch)
				checkClean(t, d, epoch, len(l)-len(left), left)
				d, _, _ = dead.Clean(d, epoch)
				l = left
			}
			if e := dead.Validate(d); e != api.OK || dead.Room(d) != capacity-len(l) {
				t.Errorf("%+v: Validate = %d, Room = %d", d, e, dead.Room(d))
			}
		}
	}
}

// randomMessages returns up to 5 messages of the last epochs, few of which are not valid.
func randomMessages(random *rand.Rand, epoch int) []api.Message {
	var l []api.Message
	for range random.IntN(6) {
		m := msg(1+random.IntN(60), max(0, epoch-random.IntN(3)))
		switch random.IntN(40) {
		case 0:
			m.Body = long.Body
		case 1:
			m.Sent = -1
		}
		l = append(l, m)
	}
	return l
}

// modelPut returns the error of Put.
func modelPut(capacity int, l, add []api.Message) api.Errno {
	if len(l)+len(add) > capacity {
		return api.ErrFull
	}
	for _, m := range add {
		if m.Sent < 0 {
			return api.ErrRange
		}
		if len(m.Body) > 16 {
			return api.ErrTooLong
		}
	}
	all := slices.Sorted(slices.Values(ids(slices.Concat(l, add))))
	if len(slices.Compact(all)) < len(l)+len(add) {
		return api.ErrDuplicate
	}
	return api.OK
}

// Rules

// R1 and R4: every function returns for all arguments, and with an error nothing else.
func TestAllArguments(t *testing.T) {
	for _, n := range extremes {
		for _, k := range extremes {
			m := api.Message{ID: n, Route: k, Epoch: n, Count: k, Gen: n, Sent: k}
			small := api.Message{ID: n, Epoch: k}
			for _, capacity := range []int{n, 1, 2, 24} {
				for _, l := range [][]api.Message{nil, {m}, {small}, {msg(5, 2), small}, {small, m}, numbered(1, 24), slices.Repeat([]api.Message{m}, 1000), slices.Repeat([]api.Message{small}, 1000)} {
					callAll(t, api.Dead{Cap: capacity, L: l}, []api.Message{m}, n, k)
					callAll(t, api.Dead{Cap: capacity, L: l}, []api.Message{small}, k, n)
					callAll(t, api.Dead{Cap: capacity, L: l}, slices.Repeat([]api.Message{small}, 1000), n, n)
				}
			}
		}
	}
}

func callAll(t *testing.T, d api.Dead, l []api.Message, k, epoch int) {
	t.Helper()
	valid := dead.Validate(d)
	if n := dead.Room(d); valid != api.OK && n != 0 || valid == api.OK && n != d.Cap-len(d.L) {
		t.Errorf("Room(%+v) = %d", d, n)
	}
	put, e := dead.Put(d, l)
	checkResult(t, "Put", d, put, e, +len(l))
	taken, out, e := dead.Take(d, k, epoch)
	checkResult(t, "Take", d, taken, e, -len(out))
	if e != api.OK && len(out) != 0 {
		t.Errorf("Take(%+v, %d, %d) gives %+v with the error %d", d, k, epoch, out, e)
	}
	cleaned, n, e := dead.Clean(d, epoch)
	checkResult(t, "Clean", d, cleaned, e, -n)
	if e != api.OK && n != 0 {
		t.Errorf("Clean(%+v, %d) gives %d with the error %d", d, epoch, n, e)
	}
	empty, e := dead.New(k)
	if e != api.OK && !isEmpty(empty) {
		t.Errorf("New(%d) = %+v, %d", k, empty, e)
	}
}

// checkResult tests that a result is valid and has that many more messages, or is nothing with an error.
func checkResult(t *testing.T, name string, d, got api.Dead, e api.Errno, more int) {
	t.Helper()
	if e != api.OK && !isEmpty(got) {
		t.Errorf("%s(%+v) = %+v, %d", name, d, got, e)
	}
	if e == api.OK && (dead.Validate(d) != api.OK || dead.Validate(got) != api.OK || got.Cap != d.Cap || len(got.L) != len(d.L)+more) {
		t.Errorf("%s(%+v) = %+v", name, d, got)
	}
}

// call is what a function returns: a store, and for Take a list.
type call struct {
	name string
	f    func(d api.Dead, l []api.Message) (api.Dead, []api.Message)
}

// calls returns calls of each function that all succeed on the stores of TestNothingIsShared.
func calls() []call {
	var all []call
	all = append(all, call{"Put", func(d api.Dead, l []api.Message) (api.Dead, []api.Message) {
		x, _ := dead.Put(d, l)
		return x, nil
	}})
	for _, k := range []int{0, 1, 2, 24} {
		for epoch := range 4 {
			all = append(all, call{"Take", func(d api.Dead, l []api.Message) (api.Dead, []api.Message) {
				x, out, _ := dead.Take(d, k, epoch)
				return x, out
			}})
		}
	}
	for epoch := range 4 {
		all = append(all, call{"Clean", func(d api.Dead, l []api.Message) (api.Dead, []api.Message) {
			x, _, _ := dead.Clean(d, epoch)
			return x, nil
		}})
	}
	return all
}

// fill fills a list, and the room behind it.
func fill(l []api.Message) {
	l = l[:cap(l)]
	for i := range l {
		l[i] = junk
	}
}

// roomy returns a copy of a list, with room behind it that an append in place would write to.
func roomy(l []api.Message) []api.Message {
	return append(slices.Clone(l), make([]api.Message, 30)...)[:len(l)]
}

// whole returns a copy of a list with the room behind it.
func whole(l []api.Message) []api.Message {
	return slices.Clone(l[:cap(l)])
}

// R2: no function changes its arguments, and the lists of a result are new memory, each one its own.
func TestNothingIsShared(t *testing.T) {
	for size := range 20 {
		for more := range 4 {
			for _, c := range calls() {
				d, l := api.Dead{Cap: 24, L: roomy(inEpochs(epochsOf(1234567891, size)...))}, roomy(numbered(40, more))
				oldStore, oldList := whole(d.L), whole(l)
				first, firstOut := c.f(d, l)
				second, secondOut := c.f(d, l)
				want, wantOut := slices.Clone(second.L), slices.Clone(secondOut)
				fill(first.L)
				fill(firstOut)
				if !slices.Equal(whole(d.L), oldStore) || !slices.Equal(whole(l), oldList) {
					t.Fatalf("%s changes its arguments, or a result shares memory with them", c.name)
				}
				fill(d.L)
				fill(l)
				if !slices.Equal(second.L, want) || !slices.Equal(secondOut, wantOut) {
					t.Errorf("%s: a result shares memory with another one or with the arguments", c.name)
				}
				fill(second.L)
				if !slices.Equal(secondOut, wantOut) {
					t.Errorf("%s: two lists of a result share memory", c.name)
				}
			}
		}
	}
}

func TestArgumentsWithErrorsStay(t *testing.T) {
	for _, c := range append(brokenStores(), broken{d: api.Dead{Cap: 4, L: msgs(1, 2)}}) {
		for _, list := range [][]api.Message{msgs(2), msgs(8, 8), {msg(8, 2), long}, msgs(6, 7, 8)} {
			d, l := api.Dead{Cap: c.d.Cap, L: roomy(c.d.L)}, roomy(list)
			oldStore, oldList := whole(d.L), whole(l)
			dead.Validate(d)
			dead.Room(d)
			dead.Put(d, l)
			dead.Take(d, -1, 0)
			dead.Take(d, 1, -1)
			dead.Clean(d, -1)
			if !slices.Equal(whole(d.L), oldStore) || !slices.Equal(whole(l), oldList) {
				t.Errorf("%s: a function changes its arguments", c.name)
			}
		}
	}
}

// What an earlier call returned does not change when its store is used again.
func TestEarlierResultsStay(t *testing.T) {
	empty, _ := dead.New(5)
	first, _ := dead.Put(empty, inEpochs(1, 0, 2))
	second, _ := dead.Put(first, msgs(8))
	other, _ := dead.Put(first, msgs(9, 10))
	third, l, _ := dead.Take(second, 2, 1)
	fourth, _, _ := dead.Clean(third, 1)
	fifth, _ := dead.Put(fourth, msgs(20, 21, 22))
	dead.Clean(fifth, 9)
	dead.Take(first, 3, 0)
	dead.Put(third, msgs(30, 31))
	for i, c := range []struct {
		d    api.Dead
		want []int
	}{{empty, nil}, {first, []int{1, 2, 3}}, {second, []int{1, 2, 3, 8}}, {other, []int{1, 2, 3, 9, 10}}, {api.Dead{Cap: 5, L: l}, []int{1, 3}}, {third, []int{2, 8}}, {fourth, []int{8}}, {fifth, []int{8, 20, 21, 22}}} {
		if !slices.Equal(ids(c.d.L), c.want) || c.d.Cap != 5 {
			t.Errorf("result %d: %+v, want %v", i+1, c.d, c.want)
		}
	}
}

// R2 and R3: a result depends neither on whether an empty list is nil nor on the room behind a list.
func TestEqualArguments(t *testing.T) {
	for size := range 20 {
		for more := range 4 {
			for _, c := range calls() {
				store, list := inEpochs(epochsOf(1234567891, size)...), numbered(40, more)
				a, aOut := c.f(api.Dead{Cap: 24, L: slices.Clip(store)}, slices.Clip(list))
				b, bOut := c.f(api.Dead{Cap: 24, L: roomy(store)}, roomy(list))
				if !same(a, b) || !slices.Equal(aOut, bOut) {
					t.Errorf("%s of %d and %d: %+v, %+v, and then %+v, %+v", c.name, size, more, a, aOut, b, bOut)
				}
			}
		}
	}
	for _, d := range []api.Dead{{Cap: 2}, {Cap: 2, L: []api.Message{}}, {Cap: 2, L: msgs(1)[:0]}} {
		checkPut(t, d, msgs(5, 6), msgs(5, 6), api.OK)
		checkTake(t, d, 2, 0, nil, nil)
		checkClean(t, d, 1, 0, nil)
		if n := dead.Room(d); n != 2 {
			t.Errorf("Room(%+v) = %d", d, n)
		}
	}
}
