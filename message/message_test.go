package message_test

import (
	"bytes"
	"math"
	"slices"
	"strings"
	"testing"

	"shardqueue/api"
	"shardqueue/digest"
	"shardqueue/message"
	"shardqueue/octets"
)

// extremes are numbers at which sums and comparisons are prone to go wrong.
var extremes = []int{math.MinInt, -1, 0, 1, api.MaxLimit, api.MaxLimit + 1, api.MaxGen, api.MaxGen + 1, api.MaxID, api.MaxID + 1, math.MaxInt}

// greatest is the message with the greatest number in each field.
var greatest = api.Message{ID: api.MaxID, Route: api.Space - 1, Epoch: api.MaxEpoch, Count: api.MaxLimit, Gen: api.MaxGen, Sent: api.MaxClock, Body: strings.Repeat("\xff", api.MaxBody)}

// field is the place of one number of a message, and the numbers that it may have.
type field struct {
	name      string
	in        func(m *api.Message) *int
	low, high int
}

var fields = []field{
	{"ID", func(m *api.Message) *int { return &m.ID }, 1, 1 << 30},
	{"Route", func(m *api.Message) *int { return &m.Route }, 0, 65535},
	{"Epoch", func(m *api.Message) *int { return &m.Epoch }, 0, 65536},
	{"Count", func(m *api.Message) *int { return &m.Count }, 0, 8},
	{"Gen", func(m *api.Message) *int { return &m.Gen }, 5, 65536},
	{"Sent", func(m *api.Message) *int { return &m.Sent }, 0, 1 << 30},
}

// sample is valid, and stays so with each number that fields allows for one of its fields.
func sample() api.Message {
	return api.Message{ID: 300, Route: 40000, Epoch: 2, Count: 5, Gen: 9, Sent: 128, Body: "xyz"}
}

func with(m api.Message, f field, n int) api.Message {
	*f.in(&m) = n
	if f.name == "Count" {
		m.Gen = max(m.Gen, min(n, api.MaxGen))
	}
	return m
}

// P3.1

func TestValidateEachNumber(t *testing.T) {
	for _, f := range fields {
		for _, c := range []struct {
			n    int
			want api.Errno
		}{
			{f.low, api.OK},
			{f.low + 1, api.OK},
			{f.high - 1, api.OK},
			{f.high, api.OK},
			{f.low - 1, api.ErrRange},
			{f.high + 1, api.ErrRange},
			{-1, api.ErrRange},
			{math.MinInt, api.ErrRange},
			{math.MaxInt, api.ErrRange},
		} {
			m := with(sample(), f, c.n)
			if got := message.Validate(m); got != c.want {
				t.Errorf("%s %d: Validate(%+v) = %d, want %d", f.name, c.n, m, got, c.want)
			}
		}
	}
}

func TestValidate(t *testing.T) {
	for _, c := range []struct {
		name string
		m    api.Message
		want api.Errno
	}{
		{"the least", api.Message{ID: 1}, api.OK},
		{"the greatest", greatest, api.OK},
		{"zero", api.Message{}, api.ErrRange},
		{"Gen is Count", api.Message{ID: 1, Count: 3, Gen: 3}, api.OK},
		{"Gen is less than Count", api.Message{ID: 1, Count: 3, Gen: 2}, api.ErrRange},
		{"Gen and Count are negative", api.Message{ID: 1, Count: -1, Gen: -1}, api.ErrRange},
		{"Count is negative", api.Message{ID: 1, Count: -1}, api.ErrRange},
		{"no body", api.Message{ID: 1, Body: ""}, api.OK},
		{"body of 16 bytes", api.Message{ID: 1, Body: "0123456789abcdef"}, api.OK},
		{"body of 17 bytes", api.Message{ID: 1, Body: "0123456789abcdefg"}, api.ErrTooLong},
		{"body of 17 bytes in 9 runes", api.Message{ID: 1, Body: strings.Repeat("\u00e9", 8) + "e"}, api.ErrTooLong},
		{"body of 300 bytes", api.Message{ID: 1, Body: strings.Repeat("b", 300)}, api.ErrTooLong},
	} {
		if got := message.Validate(c.m); got != c.want {
			t.Errorf("%s: Validate = %d, want %d", c.name, got, c.want)
		}
	}
}

func TestValidateNumbersBeforeBody(t *testing.T) {
	long := sample()
	long.Body = strings.Repeat("b", api.MaxBody+1)
	for _, f := range fields {
		for _, n := range []int{f.low - 1, f.high + 1} {
			if got := message.Validate(with(long, f, n)); got != api.ErrRange {
				t.Errorf("%s %d and a long body: Validate = %d, want %d", f.name, n, got, api.ErrRange)
			}
		}
	}
}

func TestNew(t *testing.T) {
	long := strings.Repeat("b", api.MaxBody+1)
	for _, c := range []struct {
		id, route, epoch, now int
		body                  string
		want                  api.Errno
	}{
		{3, 4, 5, 6, "x", api.OK},
		{1, 0, 0, 0, "", api.OK},
		{api.MaxID, api.Space - 1, api.MaxEpoch, api.MaxClock, long[1:], api.OK},
		{0, 4, 5, 6, "x", api.ErrRange},
		{api.MaxID + 1, 4, 5, 6, "x", api.ErrRange},
		{3, -1, 5, 6, "x", api.ErrRange},
		{3, api.Space, 5, 6, "x", api.ErrRange},
		{3, 4, -1, 6, "x", api.ErrRange},
		{3, 4, api.MaxEpoch + 1, 6, "x", api.ErrRange},
		{3, 4, 5, -1, "x", api.ErrRange},
		{3, 4, 5, api.MaxClock + 1, "x", api.ErrRange},
		{3, 4, 5, 6, long, api.ErrTooLong},
		{3, 4, 5, -1, long, api.ErrRange},
	} {
		want := api.Message{}
		if c.want == api.OK {
			want = api.Message{ID: c.id, Route: c.route, Epoch: c.epoch, Sent: c.now, Body: c.body}
		}
		if got, e := message.New(c.id, c.route, c.epoch, c.now, c.body); got != want || e != c.want {
			t.Errorf("New(%d, %d, %d, %d, %q) = %+v, %d, want %+v, %d", c.id, c.route, c.epoch, c.now, c.body, got, e, want, c.want)
		}
	}
}

// P3.2

func TestPurged(t *testing.T) {
	for _, c := range []struct {
		of, epoch int
		want      bool
	}{
		{3, 2, false},
		{3, 3, false},
		{3, 4, true},
		{0, 0, false},
		{0, 1, true},
		{api.MaxEpoch, api.MaxEpoch, false},
		{math.MinInt, math.MaxInt, true},
		{math.MaxInt, math.MinInt, false},
	} {
		if got := message.Purged(api.Message{ID: 9, Epoch: c.of, Gen: 8}, c.epoch); got != c.want {
			t.Errorf("Purged of the epoch %d in %d = %t", c.of, c.epoch, got)
		}
	}
}

func TestSpent(t *testing.T) {
	for _, c := range []struct {
		count, limit int
		want         bool
	}{
		{2, 1, true},
		{2, 2, true},
		{2, 3, false},
		{0, 0, true},
		{0, 1, false},
		{api.MaxLimit, api.MaxLimit, true},
		{math.MinInt, math.MaxInt, false},
		{math.MaxInt, math.MinInt, true},
	} {
		if got := message.Spent(api.Message{ID: 9, Count: c.count, Gen: 8}, c.limit); got != c.want {
			t.Errorf("Spent with the count %d and the limit %d = %t", c.count, c.limit, got)
		}
	}
}

func TestReceivable(t *testing.T) {
	for _, c := range []struct {
		m            api.Message
		epoch, limit int
		want         bool
	}{
		{api.Message{ID: 1, Epoch: 3, Count: 1, Gen: 4}, 3, 2, true},
		{api.Message{ID: 1, Epoch: 3, Count: 1, Gen: 4}, 2, 8, true},
		{api.Message{ID: 1}, 0, 1, true},
		{api.Message{ID: 1, Epoch: 3, Count: 1, Gen: 4}, 4, 2, false},
		{api.Message{ID: 1, Epoch: 3, Count: 1, Gen: 4}, 3, 1, false},
		{api.Message{ID: 1, Epoch: 3, Count: 1, Gen: 4}, 4, 1, false},
		{api.Message{ID: 1, Epoch: 3, Count: 1, Gen: 65535}, 3, 2, true},
		{api.Message{ID: 1, Epoch: 3, Count: 1, Gen: 65536}, 3, 2, false},
		{api.Message{ID: 1, Epoch: 3, Count: 1, Gen: 65537}, 3, 2, false},
		{api.Message{ID: 1, Epoch: 3, Count: 1, Gen: math.MaxInt}, 3, 2, false},
		// It does not examine whether the message is valid.
		{api.Message{ID: -1, Count: -1, Gen: -5}, 0, 0, true},
	} {
		if got := message.Receivable(c.m, c.epoch, c.limit); got != c.want {
			t.Errorf("Receivable(%+v, %d, %d) = %t", c.m, c.epoch, c.limit, got)
		}
	}
}

// P3.3

func TestDeliver(t *testing.T) {
	long := strings.Repeat("b", api.MaxBody+1)
	for _, c := range []struct {
		name string
		m    api.Message
		want api.Message
		e    api.Errno
	}{
		{"the first time", api.Message{ID: 1}, api.Message{ID: 1, Count: 1, Gen: 1}, api.OK},
		{"once more", sample(), api.Message{ID: 300, Route: 40000, Epoch: 2, Count: 6, Gen: 10, Sent: 128, Body: "xyz"}, api.OK},
		{"the last time", api.Message{ID: 1, Count: 7, Gen: 7}, api.Message{ID: 1, Count: 8, Gen: 8}, api.OK},
		{"to the last generation", api.Message{ID: 1, Count: 2, Gen: 65535}, api.Message{ID: 1, Count: 3, Gen: 65536}, api.OK},
		{"too often", api.Message{ID: 1, Count: 8, Gen: 8}, api.Message{}, api.ErrState},
		{"too often before the last generation", api.Message{ID: 1, Count: 8, Gen: 65535}, api.Message{}, api.ErrState},
		{"after the last generation", api.Message{ID: 1, Count: 2, Gen: 65536}, api.Message{}, api.ErrExhausted},
		{"after all", greatest, api.Message{}, api.ErrExhausted},
		{"no id", api.Message{Gen: 65536}, api.Message{}, api.ErrRange},
		{"greater generation", api.Message{ID: 1, Gen: 65537}, api.Message{}, api.ErrRange},
		{"greater count", api.Message{ID: 1, Count: 9, Gen: 9}, api.Message{}, api.ErrRange},
		{"generation less than count", api.Message{ID: 1, Count: 2, Gen: 1}, api.Message{}, api.ErrRange},
		{"numbers without limit", api.Message{ID: 1, Count: math.MaxInt, Gen: math.MaxInt}, api.Message{}, api.ErrRange},
		{"long body", api.Message{ID: 1, Body: long}, api.Message{}, api.ErrTooLong},
		{"long body after the last generation", api.Message{ID: 1, Gen: 65536, Body: long}, api.Message{}, api.ErrTooLong},
		{"long body too often", api.Message{ID: 1, Count: 8, Gen: 8, Body: long}, api.Message{}, api.ErrTooLong},
	} {
		if got, e := message.Deliver(c.m); got != c.want || e != c.e {
			t.Errorf("%s: Deliver(%+v) = %+v, %d, want %+v, %d", c.name, c.m, got, e, c.want, c.e)
		}
	}
}

func TestRevive(t *testing.T) {
	long := strings.Repeat("b", api.MaxBody+1)
	for _, m := range []api.Message{{}, {ID: 1}, sample(), greatest, {ID: -1, Route: -2, Epoch: -3, Count: -4, Gen: -5, Sent: -6, Body: long}} {
		want := m
		want.Count = 0
		if got := message.Revive(m); got != want {
			t.Errorf("Revive(%+v) = %+v", m, got)
		}
	}
}

func TestReroute(t *testing.T) {
	for _, c := range []struct{ route, low, high, want int }{
		{70, 100, 109, 100},
		{73, 100, 109, 103},
		{105, 100, 109, 105},
		{100, 100, 109, 100},
		{109, 100, 109, 109},
		{110, 100, 109, 100},
		{65535, 0, 65535, 65535},
		{-1, 100, 109, 0},
		{65536, 100, 109, 0},
		{105, 109, 100, 0},
		{105, -1, 109, 0},
		{105, 100, 65536, 0},
		{math.MaxInt, math.MinInt, math.MaxInt, 0},
	} {
		for _, m := range []api.Message{{}, sample(), greatest, {ID: -1, Epoch: -3, Count: -4, Gen: -5, Sent: -6, Body: strings.Repeat("b", 17)}} {
			m.Route = c.route
			want := m
			want.Route = c.want
			if got := message.Reroute(m, c.low, c.high); got != want {
				t.Errorf("Reroute(%+v, %d, %d) = %+v, want %+v", m, c.low, c.high, got, want)
			}
		}
	}
}

func TestRerouteAgreesWithDigest(t *testing.T) {
	for route := 0; route < api.Space; route += 97 {
		m := sample()
		m.Route = route
		if got, want := message.Reroute(m, 1000, 30000).Route, digest.Into(route, 1000, 30000); got != want {
			t.Errorf("Reroute of the route %d gives %d, want %d", route, got, want)
		}
	}
}

// P3.4

func TestEncode(t *testing.T) {
	long := strings.Repeat("b", api.MaxBody+1)
	for _, c := range []struct {
		m    api.Message
		want []byte
		e    api.Errno
	}{
		{api.Message{ID: 1, Body: "a"}, []byte{1, 0, 0, 0, 0, 0, 1, 97}, api.OK},
		{api.Message{ID: 1}, []byte{1, 0, 0, 0, 0, 0, 0}, api.OK},
		{api.Message{ID: 1, Route: 2, Epoch: 3, Count: 4, Gen: 5, Sent: 6, Body: "bc"}, []byte{1, 2, 3, 4, 5, 6, 2, 98, 99}, api.OK},
		{sample(), []byte{172, 2, 192, 184, 2, 2, 5, 9, 128, 1, 3, 120, 121, 122}, api.OK},
		{api.Message{ID: 1, Body: "\x00\xff"}, []byte{1, 0, 0, 0, 0, 0, 2, 0, 255}, api.OK},
		{api.Message{}, nil, api.ErrRange},
		{api.Message{ID: 1, Count: 1}, nil, api.ErrRange},
		{api.Message{ID: 1, Body: long}, nil, api.ErrTooLong},
		{api.Message{ID: 1, Sent: -1, Body: long}, nil, api.ErrRange},
	} {
		if got, e := message.Encode(c.m); !bytes.Equal(got, c.want) || e != c.e {
			t.Errorf("Encode(%+v) = %v, %d, want %v, %d", c.m, got, e, c.want, c.e)
		}
	}
}

func TestEncodeTheGreatest(t *testing.T) {
	want := []byte{128, 128, 128, 128, 4, 255, 255, 3, 128, 128, 4, 8, 128, 128, 4, 128, 128, 128, 128, 4, 16}
	want = append(want, bytes.Repeat([]byte{255}, 16)...)
	if got, e := message.Encode(greatest); !bytes.Equal(got, want) || e != api.OK {
		t.Errorf("Encode = %v, %d, want %v", got, e, want)
	}
}

func TestDecode(t *testing.T) {
	body17 := "\x01\x00\x00\x00\x00\x00\x11" + strings.Repeat("b", 17)
	for _, c := range []struct {
		name string
		b    string
		want api.Message
		e    api.Errno
	}{
		{"body", "\x01\x00\x00\x00\x00\x00\x01a", api.Message{ID: 1, Body: "a"}, api.OK},
		{"no body", "\x01\x00\x00\x00\x00\x00\x00", api.Message{ID: 1}, api.OK},
		{"each field", "\x01\x02\x03\x04\x05\x06\x02bc", api.Message{ID: 1, Route: 2, Epoch: 3, Count: 4, Gen: 5, Sent: 6, Body: "bc"}, api.OK},
		{"longer numbers", "\xac\x02\xc0\xb8\x02\x02\x05\x09\x80\x01\x03xyz", sample(), api.OK},

		{"nothing", "", api.Message{}, api.ErrSyntax},
		{"a byte left", "\x01\x00\x00\x00\x00\x00\x01ab", api.Message{}, api.ErrSyntax},
		{"a zero left", "\x01\x00\x00\x00\x00\x00\x00\x00", api.Message{}, api.ErrSyntax},
		{"two messages", "\x01\x00\x00\x00\x00\x00\x00\x01\x00\x00\x00\x00\x00\x00", api.Message{}, api.ErrSyntax},
		{"end within the body", "\x01\x00\x00\x00\x00\x00\x03ab", api.Message{}, api.ErrSyntax},
		{"end within a number", "\x01\x00\x80", api.Message{}, api.ErrSyntax},
		{"id not in its shortest form", "\x81\x00\x00\x00\x00\x00\x00\x00", api.Message{}, api.ErrSyntax},
		{"route not in its shortest form", "\x01\x80\x00\x00\x00\x00\x00\x00", api.Message{}, api.ErrSyntax},
		{"time not in its shortest form", "\x01\x00\x00\x00\x00\x80\x00\x00", api.Message{}, api.ErrSyntax},
		{"id of seven bytes", "\x81\x81\x81\x81\x81\x81\x01\x00\x00\x00\x00\x00\x00", api.Message{}, api.ErrSyntax},
		{"id above MaxNumber", "\x81\x80\x80\x80\x80\x20\x00\x00\x00\x00\x00\x00", api.Message{}, api.ErrSyntax},
		{"length above 16", body17, api.Message{}, api.ErrSyntax},
		{"length 255", "\x01\x00\x00\x00\x00\x00\xff", api.Message{}, api.ErrSyntax},

		{"id 0", "\x00\x00\x00\x00\x00\x00\x00", api.Message{}, api.ErrRange},
		{"id MaxNumber", "\x80\x80\x80\x80\x80\x20\x00\x00\x00\x00\x00\x00", api.Message{}, api.ErrRange},
		{"route 65536", "\x01\x80\x80\x04\x00\x00\x00\x00\x00", api.Message{}, api.ErrRange},
		{"epoch 65537", "\x01\x00\x81\x80\x04\x00\x00\x00\x00", api.Message{}, api.ErrRange},
		{"count 9", "\x01\x00\x00\x09\x09\x00\x00", api.Message{}, api.ErrRange},
		{"generation less than count", "\x01\x00\x00\x02\x01\x00\x00", api.Message{}, api.ErrRange},
		{"generation 65537", "\x01\x00\x00\x00\x81\x80\x04\x00\x00", api.Message{}, api.ErrRange},
		{"time above MaxClock", "\x01\x00\x00\x00\x00\x81\x80\x80\x80\x04\x00", api.Message{}, api.ErrRange},

		// What cannot be read comes before what is out of range.
		{"id 0 and a byte left", "\x00\x00\x00\x00\x00\x00\x00\x00", api.Message{}, api.ErrSyntax},
		{"id 0 and no end", "\x00\x00\x00\x00\x00\x00", api.Message{}, api.ErrSyntax},
		{"id 0 and length above 16", "\x00" + body17[1:], api.Message{}, api.ErrSyntax},
	} {
		if got, e := message.Decode([]byte(c.b)); got != c.want || e != c.e {
			t.Errorf("%s: Decode(%q) = %+v, %d, want %+v, %d", c.name, c.b, got, e, c.want, c.e)
		}
	}
}

// P3.5

// messages returns valid messages with all combinations of ends of the ranges.
func messages() []api.Message {
	all := []api.Message{sample()}
	for _, f := range fields {
		var more []api.Message
		for _, m := range all {
			for _, n := range []int{f.low, (f.low + f.high) / 3, f.high} {
				more = append(more, with(m, f, n))
			}
		}
		all = more
	}
	for i := range all {
		all[i].Body = strings.Repeat("\x80", i%(api.MaxBody+1))
	}
	return slices.DeleteFunc(all, func(m api.Message) bool { return m.Gen < m.Count })
}

func TestDecodeOfEncode(t *testing.T) {
	all := messages()
	if len(all) < 500 {
		t.Fatalf("only %d messages", len(all))
	}
	for _, m := range all {
		b, e := message.Encode(m)
		if e != api.OK {
			t.Fatalf("Encode(%+v): %d", m, e)
		}
		if got, e := message.Decode(b); got != m || e != api.OK {
			t.Errorf("Decode of Encode(%+v) = %+v, %d", m, got, e)
		}
	}
}

func TestNoProperBeginningIsAnEncoding(t *testing.T) {
	for _, m := range messages() {
		b, _ := message.Encode(m)
		for end := range b {
			if got, e := message.Decode(b[:end]); e != api.ErrSyntax || got != (api.Message{}) {
				t.Fatalf("Decode of %d bytes of %v = %+v, %d", end, b, got, e)
			}
		}
	}
}

// Whatever can be decoded is the encoding of what it is decoded to.
func TestEncodeOfDecode(t *testing.T) {
	base, _ := message.Encode(sample())
	decoded := 0
	for at := range base {
		for octet := range 256 {
			b := bytes.Clone(base)
			b[at] = byte(octet)
			m, e := message.Decode(b)
			if e != api.OK {
				continue
			}
			decoded++
			if got, e := message.Encode(m); !bytes.Equal(got, b) || e != api.OK {
				t.Errorf("Encode of Decode(%v) = %v, %d", b, got, e)
			}
		}
	}
	if decoded < 1000 {
		t.Errorf("only %d of the byte strings can be decoded", decoded)
	}
}

func FuzzDecode(f *testing.F) {
	f.Add([]byte{1, 0, 0, 0, 0, 0, 1, 97})
	f.Add([]byte{172, 2, 192, 184, 2, 2, 5, 9, 128, 1, 3, 120, 121, 122})
	f.Fuzz(func(t *testing.T, b []byte) {
		m, e := message.Decode(b)
		if e != api.OK {
			if m != (api.Message{}) {
				t.Errorf("Decode(%v) = %+v, %d", b, m, e)
			}
			return
		}
		if got, e := message.Encode(m); !bytes.Equal(got, b) || e != api.OK {
			t.Errorf("Encode of Decode(%v) = %v, %d", b, got, e)
		}
	})
}

// Rules

// R1, R2 and R4: every function returns for all arguments, the same for equal ones, and with an error nothing else.
func TestAllArguments(t *testing.T) {
	for _, x := range extremes {
		for _, y := range extremes {
			for _, body := range []string{"", "b", strings.Repeat("b", 1000)} {
				for _, m := range []api.Message{
					{ID: x, Route: y, Body: body},
					{ID: 1, Epoch: x, Sent: y, Body: body},
					{ID: 1, Count: x, Gen: y, Body: body},
					{ID: x, Route: x, Epoch: x, Count: y, Gen: y, Sent: y, Body: body},
				} {
					tryAll(t, m, x, y)
				}
			}
		}
	}
}

func tryAll(t *testing.T, m api.Message, x, y int) {
	want := message.Validate(m)
	made, e := message.New(m.ID, m.Route, m.Epoch, m.Sent, m.Body)
	again, f := message.New(m.ID, m.Route, m.Epoch, m.Sent, m.Body)
	if made != again || e != f || e != api.OK && made != (api.Message{}) {
		t.Errorf("New of the fields of %+v = %+v, %d, and then %+v, %d", m, made, e, again, f)
	}
	if e == api.OK && message.Validate(made) != api.OK {
		t.Errorf("New of the fields of %+v gives the invalid %+v", m, made)
	}
	delivered, e := message.Deliver(m)
	if e != api.OK && delivered != (api.Message{}) || want != api.OK && e != want {
		t.Errorf("Deliver(%+v) = %+v, %d", m, delivered, e)
	}
	if e == api.OK && (delivered.Count != m.Count+1 || delivered.Gen != m.Gen+1 || message.Validate(delivered) != api.OK) {
		t.Errorf("Deliver(%+v) = %+v", m, delivered)
	}
	b, e := message.Encode(m)
	if e != want || e != api.OK && len(b) > 0 {
		t.Errorf("Encode(%+v) = %v, %d, want %d", m, b, e, want)
	}
	if got := message.Receivable(m, x, y); got != (!message.Purged(m, x) && !message.Spent(m, y) && m.Gen < api.MaxGen) {
		t.Errorf("Receivable(%+v, %d, %d) = %t", m, x, y, got)
	}
	if got := message.Reroute(m, x, y).Route; got != digest.Into(m.Route, x, y) {
		t.Errorf("Reroute(%+v, %d, %d) has the route %d", m, x, y, got)
	}
	if got := message.Revive(m).Count; got != 0 {
		t.Errorf("Revive(%+v) has the count %d", m, got)
	}
}

// R2: Decode does not change its argument, and no result shares memory with it or with an earlier result.
func TestNothingIsChanged(t *testing.T) {
	b, _ := message.Encode(sample())
	copied := bytes.Clone(b)
	m, _ := message.Decode(b)
	message.Decode(b[:5])
	if !bytes.Equal(b, copied) {
		t.Errorf("Decode changed its argument: %v", b)
	}
	other, _ := message.Encode(sample())
	for i := range other {
		other[i] = 0
	}
	if !bytes.Equal(b, copied) {
		t.Errorf("two results of Encode share memory: %v", b)
	}
	for i := range b {
		b[i] = 0
	}
	if m != sample() {
		t.Errorf("a result of Decode shares memory with the argument: %+v", m)
	}
}

// R3: a nil slice and an empty slice are the same.
func TestEmptyLists(t *testing.T) {
	m, e := message.Decode(nil)
	n, f := message.Decode([]byte{})
	if m != n || e != f || e != api.ErrSyntax {
		t.Errorf("Decode of nil: %+v, %d; of an empty slice: %+v, %d", m, e, n, f)
	}
}

// P3.4 names the functions with which each part is written; so each part can be read back with its counterpart.
func TestPartsAreThoseOfOctets(t *testing.T) {
	for _, m := range messages() {
		b, _ := message.Encode(m)
		at := 0
		for _, f := range fields {
			n, next, e := octets.GetVar(b, at)
			if n != *f.in(&m) || e != api.OK {
				t.Fatalf("%s of Encode(%+v) = %d, %d", f.name, m, n, e)
			}
			at = next
		}
		s, next, e := octets.GetText(b, at, api.MaxBody)
		if s != m.Body || next != len(b) || e != api.OK {
			t.Fatalf("Body of Encode(%+v) = %q, %d, %d", m, s, next, e)
		}
	}
}
