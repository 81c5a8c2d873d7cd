package handle_test

import (
	"bytes"
	"math"
	"math/rand/v2"
	"slices"
	"testing"

	"shardqueue/api"
	"shardqueue/handle"
)

// extremes are numbers at which comparisons and conversions are prone to go wrong.
var extremes = []int{math.MinInt, math.MinInt + 1, -1 << 32, -1<<32 + 1, -256, -255, -1, 1 << 31, 1<<32 - 1, 1 << 32, 1<<32 + 1, 1<<40 + 1, math.MaxInt - 1, math.MaxInt}

// usual is a handle whose bytes are all different from zero and from each other.
var usual = api.Handle{ID: 0x12345678, Gen: 0xABCD, Route: 0xEF01, Hint: 5}

// parts are the numbers of a handle: what each one may be, where it stands and how many bytes it has.
var parts = []struct {
	name           string
	low, high      int
	at, size, most int
	set            func(h *api.Handle, n int)
}{
	{"ID", 1, 1 << 30, 1, 4, 1<<32 - 1, func(h *api.Handle, n int) { h.ID = n }},
	{"Gen", 1, 1 << 16, 5, 3, 1<<24 - 1, func(h *api.Handle, n int) { h.Gen = n }},
	{"Route", 0, 65535, 8, 2, 65535, func(h *api.Handle, n int) { h.Route = n }},
	{"Hint", 0, 5, 10, 1, 255, func(h *api.Handle, n int) { h.Hint = n }},
}

// known are handles with all of their bytes.
var known = []struct {
	h api.Handle
	b []byte
}{
	{api.Handle{ID: 1, Gen: 2, Route: 3, Hint: 4}, []byte{113, 0, 0, 0, 1, 0, 0, 2, 0, 3, 4, 0, 71, 176, 9, 6}},
	{api.Handle{ID: 1, Gen: 1}, []byte{113, 0, 0, 0, 1, 0, 0, 1, 0, 0, 0, 0, 183, 102, 179, 218}},
	{api.Handle{ID: 1 << 30, Gen: 1 << 16, Route: 65535, Hint: 5}, []byte{113, 64, 0, 0, 0, 1, 0, 0, 255, 255, 5, 0, 231, 66, 70, 112}},
	{usual, []byte{113, 18, 52, 86, 120, 0, 171, 205, 239, 1, 5, 0, 132, 0, 226, 121}},
	{api.Handle{ID: 256, Gen: 65536, Route: 255, Hint: 1}, []byte{113, 0, 0, 1, 0, 1, 0, 0, 0, 255, 1, 0, 242, 229, 244, 216}},
}

// sum is the hash of P2.1.
func sum(b []byte) uint32 {
	h := uint32(2166136261)
	for _, octet := range b {
		h = (h ^ uint32(octet)) * 16777619
	}
	return h
}

func fourBytes(n uint32) []byte {
	return []byte{byte(n >> 24), byte(n >> 16), byte(n >> 8), byte(n)}
}

// signed returns b with its check number.
func signed(b []byte) []byte {
	check := sum(slices.Concat([]byte{0x5A}, b))
	return slices.Concat(b, fourBytes(check))
}

// written returns what P9.1 says about numbers that need not be in their ranges, as far as the bytes hold them.
func written(h api.Handle) []byte {
	return signed([]byte{113,
		byte(h.ID >> 24), byte(h.ID >> 16), byte(h.ID >> 8), byte(h.ID),
		byte(h.Gen >> 16), byte(h.Gen >> 8), byte(h.Gen),
		byte(h.Route >> 8), byte(h.Route),
		byte(h.Hint), 0})
}

func usualBytes() []byte {
	return written(usual)
}

// with returns bytes in which one is different.
func with(b []byte, at int, octet byte) []byte {
	c := bytes.Clone(b)
	c[at] = octet
	return c
}

// anyHandle returns a valid handle, in which short numbers are as frequent as long ones.
func anyHandle(r *rand.Rand) api.Handle {
	var h api.Handle
	for _, p := range parts {
		p.set(&h, p.low+r.IntN(p.high-p.low+1)>>r.IntN(32))
	}
	return h
}

func randomBytes(r *rand.Rand, size int) []byte {
	b := make([]byte, size)
	for i := range b {
		b[i] = byte(r.IntN(256))
	}
	return b
}

// succeeds tests that a handle has these bytes, and the bytes this handle.
func succeeds(t *testing.T, h api.Handle, b []byte) {
	t.Helper()
	if got, e := handle.Encode(h); e != api.OK || !bytes.Equal(got, b) {
		t.Errorf("Encode(%+v) = %v, %d, want %v", h, got, e, b)
	}
	if got, e := handle.Parse(b); e != api.OK || got != h {
		t.Errorf("Parse(%v) = %+v, %d, want %+v", b, got, e, h)
	}
}

// failsToEncode tests that Encode returns ErrRange, and nothing else.
func failsToEncode(t *testing.T, h api.Handle) {
	t.Helper()
	if b, e := handle.Encode(h); e != api.ErrRange || len(b) != 0 {
		t.Errorf("Encode(%+v) = %v, %d, want %d", h, b, e, api.ErrRange)
	}
}

// failsToParse tests that Parse returns ErrSyntax, and nothing else.
func failsToParse(t *testing.T, b []byte) {
	t.Helper()
	if h, e := handle.Parse(b); e != api.ErrSyntax || h != (api.Handle{}) {
		t.Errorf("Parse(%v) = %+v, %d, want %d", b, h, e, api.ErrSyntax)
	}
}

// P9.1

func TestExample(t *testing.T) {
	b, e := handle.Encode(api.Handle{ID: 1, Gen: 2, Route: 3, Hint: 4})
	if e != api.OK || len(b) != api.TokenSize || !bytes.Equal(b[:12], []byte{113, 0, 0, 0, 1, 0, 0, 2, 0, 3, 4, 0}) {
		t.Errorf("Encode = %v, %d", b, e)
	}
}

func TestKnown(t *testing.T) {
	for _, c := range known {
		succeeds(t, c.h, c.b)
	}
}

// Each bit of each number stands at its place, and so does each value near the ends of its range.
func TestEncodeEachNumber(t *testing.T) {
	for _, p := range parts {
		values := []int{p.low, p.low + 1, p.high - 1, p.high}
		for n := 1; n <= p.high; n *= 2 {
			values = append(values, n, min(n+1, p.high), max(n-1, p.low))
		}
		for _, n := range values {
			for _, h := range []api.Handle{usual, {ID: 1, Gen: 1}, {ID: 1 << 30, Gen: 1 << 16, Route: 65535, Hint: 5}} {
				p.set(&h, n)
				succeeds(t, h, written(h))
			}
		}
	}
}

// The short ranges are tried in full.
func TestEncodeAllGensRoutesAndHints(t *testing.T) {
	for n := range 65536 {
		h := api.Handle{ID: n + 1, Gen: n + 1, Route: n, Hint: n % 6}
		succeeds(t, h, written(h))
	}
}

func TestEncodeOutOfRange(t *testing.T) {
	for _, p := range parts {
		for _, n := range append([]int{p.low - 1, p.low - 2, p.high + 1, p.high + 2, p.high + 256, p.most + 1, p.most + 2, p.most + 1 + p.low}, extremes...) {
			h := usual
			p.set(&h, n)
			failsToEncode(t, h)
		}
	}
	for n := -300; n <= 300; n++ {
		h := api.Handle{ID: 1, Gen: 1, Hint: n}
		if n >= 0 && n < 6 {
			succeeds(t, h, written(h))
		} else {
			failsToEncode(t, h)
		}
	}
}

func TestEncodeSeveralOutOfRange(t *testing.T) {
	failsToEncode(t, api.Handle{})
	for i, p := range parts {
		for _, q := range parts[:i] {
			for _, m := range []int{p.low - 1, p.high + 1} {
				for _, n := range []int{q.low - 1, q.high + 1} {
					h := usual
					p.set(&h, m)
					q.set(&h, n)
					failsToEncode(t, h)
				}
			}
		}
	}
	for _, n := range extremes {
		failsToEncode(t, api.Handle{ID: n, Gen: n, Route: n, Hint: n})
	}
}

// P9.2

func TestParseEachLength(t *testing.T) {
	for _, c := range known {
		for size := range 16 {
			failsToParse(t, c.b[:size])
			failsToParse(t, c.b[16-size:])
			failsToParse(t, make([]byte, size))
			if size != 12 {
				failsToParse(t, signed(c.b[:size]))
			}
		}
		for octet := range 256 {
			failsToParse(t, slices.Concat(c.b, []byte{byte(octet)}))
			failsToParse(t, slices.Concat([]byte{byte(octet)}, c.b))
		}
		failsToParse(t, slices.Concat(c.b, c.b))
		failsToParse(t, signed(c.b))
		for i := range 12 {
			failsToParse(t, signed(slices.Delete(bytes.Clone(c.b[:12]), i, i+1)))
			failsToParse(t, signed(slices.Insert(bytes.Clone(c.b[:12]), i, 0)))
		}
	}
	for size := 17; size <= 1000; size++ {
		failsToParse(t, append(make([]byte, size-16), usualBytes()...))
		failsToParse(t, append(usualBytes(), make([]byte, size-16)...))
	}
	failsToParse(t, nil)
	failsToParse(t, []byte{})
}

// The first byte and the one after the numbers are examined, whatever the check number.
func TestParseFixedBytes(t *testing.T) {
	for _, c := range known {
		for octet := range 256 {
			if octet != 113 {
				failsToParse(t, signed(with(c.b[:12], 0, byte(octet))))
			}
			if octet != 0 {
				failsToParse(t, signed(with(c.b[:12], 11, byte(octet))))
			}
		}
	}
}

// The ranges are examined, whatever the check number.
func TestParseOutOfRange(t *testing.T) {
	for _, p := range parts {
		values := []int{0, p.low - 1, p.high + 1, p.high + 2, p.most - 1, p.most}
		for bit := 1; bit <= p.most; bit *= 2 {
			values = append(values, bit, p.high+bit)
		}
		for _, n := range values {
			if n < 0 || n > p.most || n >= p.low && n <= p.high {
				continue
			}
			h := usual
			p.set(&h, n)
			failsToParse(t, written(h))
		}
	}
	for n := 6; n < 256; n++ {
		failsToParse(t, written(api.Handle{ID: 1, Gen: 1, Hint: n}))
	}
	failsToParse(t, written(api.Handle{}))
	failsToParse(t, written(api.Handle{ID: 1}))
	failsToParse(t, written(api.Handle{Gen: 1}))
	failsToParse(t, written(api.Handle{ID: 1<<32 - 1, Gen: 1<<24 - 1, Route: 65535, Hint: 255}))
}

func TestParseCheckNumber(t *testing.T) {
	for _, c := range known {
		body, check := c.b[:12], bytes.Clone(c.b[12:])
		backwards := bytes.Clone(check)
		slices.Reverse(backwards)
		for _, other := range [][]byte{
			backwards,
			{0, 0, 0, 0},
			{255, 255, 255, 255},
			{^check[0], ^check[1], ^check[2], ^check[3]},
			{check[1], check[2], check[3], check[0]},
			{check[2], check[3], check[0], check[1]},
			fourBytes(sum(body)),
			fourBytes(sum(body) + 1),
			fourBytes(sum(slices.Concat([]byte{0x5A}, body[:11]))),
			fourBytes(sum(slices.Concat([]byte{0x5A}, body[1:]))),
			fourBytes(sum(slices.Concat(body, []byte{0x5A}))),
		} {
			if !bytes.Equal(other, check) {
				failsToParse(t, slices.Concat(body, other))
			}
		}
		for bit := range 32 {
			failsToParse(t, slices.Concat(body, fourBytes(sum(slices.Concat([]byte{0x5A}, body))^1<<bit)))
		}
	}
}

// The check number of another handle is not accepted, nor is that of a handle with other numbers in the same bytes.
func TestParseMixed(t *testing.T) {
	for i, c := range known {
		for j, d := range known {
			if i == j {
				continue
			}
			failsToParse(t, slices.Concat(c.b[:12], d.b[12:]))
			for at := 1; at < 16; at++ {
				mixed := slices.Concat(c.b[:at], d.b[at:])
				if !bytes.Equal(mixed, c.b) && !bytes.Equal(mixed, d.b) {
					failsToParse(t, mixed)
				}
			}
		}
	}
	for i := range 16 {
		for j := range i {
			b := usualBytes()
			b[i], b[j] = b[j], b[i]
			if !bytes.Equal(b, usualBytes()) {
				failsToParse(t, b)
			}
		}
	}
}

// Twelve bytes with a right check number are accepted just if the bytes are those of a valid handle.
func TestParseSigned(t *testing.T) {
	r := rand.New(rand.NewPCG(9, 1))
	accepted := 0
	for range 100000 {
		b := randomBytes(r, 12)
		for _, c := range []struct {
			at    int
			octet byte
		}{{0, 113}, {1, byte(r.IntN(64))}, {5, 0}, {10, byte(r.IntN(6))}, {11, 0}} {
			if r.IntN(8) > 0 {
				b[c.at] = c.octet
			}
		}
		h := read(b)
		if b[0] != 113 || b[11] != 0 || !isValid(h) {
			failsToParse(t, signed(b))
			continue
		}
		accepted++
		succeeds(t, h, signed(b))
	}
	if accepted < 1000 {
		t.Errorf("only %d were accepted", accepted)
	}
}

// read returns the numbers that stand in b.
func read(b []byte) api.Handle {
	var h api.Handle
	for _, p := range parts {
		n := 0
		for _, octet := range b[p.at : p.at+p.size] {
			n = n*256 + int(octet)
		}
		p.set(&h, n)
	}
	return h
}

func isValid(h api.Handle) bool {
	return h.ID >= 1 && h.ID <= 1<<30 && h.Gen >= 1 && h.Gen <= 1<<16 && h.Route >= 0 && h.Route <= 65535 && h.Hint >= 0 && h.Hint <= 5
}

// P9.3

func TestRoundTrips(t *testing.T) {
	r := rand.New(rand.NewPCG(9, 2))
	for range 100000 {
		h := anyHandle(r)
		succeeds(t, h, written(h))
	}
}

// What Parse accepts is what Encode returns.
func TestAcceptedIsWritten(t *testing.T) {
	r := rand.New(rand.NewPCG(9, 3))
	accepted := 0
	for range 100000 {
		b := written(anyHandle(r))
		for range r.IntN(4) {
			b[r.IntN(16)] ^= byte(1 << r.IntN(8))
		}
		if r.IntN(2) == 0 {
			b = signed(b[:12])
		}
		h, e := handle.Parse(b)
		if e != api.OK {
			continue
		}
		accepted++
		if again, e := handle.Encode(h); e != api.OK || !bytes.Equal(again, b) {
			t.Errorf("Parse(%v) = %+v, but Encode of it is %v, %d", b, h, again, e)
		}
	}
	if accepted < 1000 {
		t.Errorf("only %d were accepted", accepted)
	}
}

// Each byte is changed to each other value.
func TestChangeOfOneByte(t *testing.T) {
	r := rand.New(rand.NewPCG(9, 4))
	var tokens [][]byte
	for _, c := range known {
		tokens = append(tokens, c.b)
	}
	for range 100 {
		tokens = append(tokens, written(anyHandle(r)))
	}
	for _, b := range tokens {
		for i := range b {
			for change := 1; change < 256; change++ {
				failsToParse(t, with(b, i, b[i]^byte(change)))
			}
		}
	}
}

// Different handles have different bytes.
func TestDifferentHandles(t *testing.T) {
	r := rand.New(rand.NewPCG(9, 5))
	met := map[string]api.Handle{}
	for range 20000 {
		h := anyHandle(r)
		b, _ := handle.Encode(h)
		if other, ok := met[string(b)]; ok && other != h {
			t.Errorf("%+v and %+v have the same bytes %v", h, other, b)
		}
		met[string(b)] = h
	}
}

// Rules

// For all arguments, both functions end, and return nothing but an error if they fail (R1, R4).
func TestAllArguments(t *testing.T) {
	numbers := append([]int{0, 1, 5, 6, 65535, 65536, 65537, 1 << 30, 1<<30 + 1}, extremes...)
	for _, id := range numbers {
		for _, gen := range numbers {
			for _, route := range numbers {
				for _, hint := range numbers {
					h := api.Handle{ID: id, Gen: gen, Route: route, Hint: hint}
					if isValid(h) {
						succeeds(t, h, written(h))
					} else {
						failsToEncode(t, h)
					}
				}
			}
		}
	}
	r := rand.New(rand.NewPCG(9, 6))
	for range 100000 {
		b := randomBytes(r, r.IntN(40))
		if len(b) != 16 || !bytes.Equal(b, signed(b[:12])) {
			failsToParse(t, b)
		}
	}
}

// The bytes that are parsed stay as they are, as does the memory behind them (R2).
func TestArgumentsStay(t *testing.T) {
	for size := range 20 {
		room := append(usualBytes(), 1, 2, 3, 4, 5, 6, 7, 8)
		before := bytes.Clone(room)
		handle.Parse(room[:size])
		if !bytes.Equal(room, before) {
			t.Errorf("Parse of %d bytes changes them: %v", size, room)
		}
	}
}

// Each result of Encode has its own memory, and a handle has none of the bytes (R2).
func TestNothingIsShared(t *testing.T) {
	first, _ := handle.Encode(usual)
	second, _ := handle.Encode(usual)
	clear(first[:cap(first)])
	if !bytes.Equal(second, usualBytes()) {
		t.Errorf("a result of Encode changes with another one: %v", second)
	}
	third, _ := handle.Encode(usual)
	if !bytes.Equal(third, usualBytes()) {
		t.Errorf("Encode returns something else after a result was changed: %v", third)
	}
	_ = append(second, 1, 2, 3)
	if fourth, _ := handle.Encode(known[0].h); !bytes.Equal(third, usualBytes()) || !bytes.Equal(fourth, known[0].b) {
		t.Errorf("results change later: %v, %v", third, fourth)
	}
	h, _ := handle.Parse(second)
	clear(second)
	if h != usual {
		t.Errorf("a handle changes with the bytes: %+v", h)
	}
}

// What was done before does not matter (R2).
func TestEqualArguments(t *testing.T) {
	for range 3 {
		for _, c := range known {
			succeeds(t, c.h, c.b)
			failsToEncode(t, api.Handle{})
			failsToParse(t, c.b[:15])
		}
	}
}
