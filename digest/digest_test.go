package digest_test

import (
	"bytes"
	"math"
	"testing"

	"shardqueue/api"
	"shardqueue/digest"
	"shardqueue/octets"
)

// extremes are arguments at which sums, quotients and comparisons are prone to go wrong.
var extremes = []int{math.MinInt, math.MinInt + 1, -65536, -2, -1, 0, 1, 2, 255, 256, 32767, 32768, 65534, 65535, 65536, 65537, api.MaxID - 1, api.MaxID, api.MaxID + 1, 1<<32 - 1, 1 << 32, math.MaxInt - 1, math.MaxInt}

// P2.1

func TestSum(t *testing.T) {
	octetsInOrder := make([]byte, 256)
	for i := range octetsInOrder {
		octetsInOrder[i] = byte(i)
	}
	for _, c := range []struct {
		b    string
		want int
	}{
		{"", 2166136261},
		{"a", 3826002220},
		{"Z", 3742114125},
		{"foobar", 0xBF9CF968},
		{"hello", 1335831723},
		{"\x00\x00\x00\x00", 1268118805},
		{"\xff\xff\xff\xff", 3809873841},
		{string(octetsInOrder), 2426689733},
	} {
		if got := digest.Sum([]byte(c.b)); got != c.want {
			t.Errorf("Sum(%q) = %d, want %d", c.b, got, c.want)
		}
	}
}

// A further byte changes a sum as P2.1 says, and each sum has 32 bits.
func TestSumGoesOnByByte(t *testing.T) {
	b := make([]byte, 0, 1000)
	for i := range 1000 {
		h, octet := digest.Sum(b), i*7%256
		b = append(b, byte(octet))
		got, want := digest.Sum(b), (h^octet)*16777619%(1<<32)
		if got != want || got < 0 || got >= 1<<32 {
			t.Fatalf("Sum of %d bytes = %d, want %d", len(b), got, want)
		}
	}
}

// P2.2

func TestRoute(t *testing.T) {
	for _, c := range []struct{ id, want int }{
		{0, 48768},
		{1, 47383},
		{2, 47226},
		{255, 39629},
		{256, 24383},
		{258, 23105},
		{65535, 61694},
		{65536, 19813},
		{0x01020304, 65353},
		{api.MaxID - 1, 53569},
		{api.MaxID, 28755},
		{api.MaxID + 1, 0},
		{1 << 32, 0},
		{math.MaxInt, 0},
		{-1, 0},
		{math.MinInt, 0},
	} {
		if got := digest.Route(c.id); got != c.want {
			t.Errorf("Route(%d) = %d, want %d", c.id, got, c.want)
		}
	}
}

func TestRouteIsTheFoldedSumOfTheID(t *testing.T) {
	for id := 0; id <= api.MaxID; id = id + id/5 + 1 {
		b, _ := octets.Put(nil, id, 4)
		h := digest.Sum(b)
		got := digest.Route(id)
		if want := h/65536 ^ h%65536; got != want || got < 0 || got >= api.Space {
			t.Errorf("Route(%d) = %d, want %d", id, got, want)
		}
	}
}

func TestCheck(t *testing.T) {
	for _, c := range []struct {
		b    string
		want int
	}{
		{"", 3742114125},
		{"a", 1276655684},
		{"Z", 924325685},
		{"foobar", 3920077200},
		{"hello", 3378400003},
		{"\x00\x00\x00\x00", 2503747869},
		{"\xff\xff\xff\xff", 1921913273},
	} {
		if got := digest.Check([]byte(c.b)); got != c.want {
			t.Errorf("Check(%q) = %d, want %d", c.b, got, c.want)
		}
		if got := digest.Sum([]byte("\x5A" + c.b)); got != c.want {
			t.Errorf("Sum of 0x5A and %q = %d, want %d", c.b, got, c.want)
		}
	}
}

// P2.3

func TestInto(t *testing.T) {
	for _, c := range []struct{ route, low, high, want int }{
		// The route lies in the span.
		{100, 100, 109, 100},
		{105, 100, 109, 105},
		{109, 100, 109, 109},
		{103, 103, 109, 103},
		{109, 103, 109, 109},
		{7, 7, 7, 7},
		{0, 0, 65535, 0},
		{65535, 0, 65535, 65535},
		{65535, 65535, 65535, 65535},
		// It lies below or above.
		{70, 100, 109, 100},
		{73, 100, 109, 103},
		{99, 100, 109, 109},
		{0, 100, 109, 100},
		{110, 100, 109, 100},
		{119, 100, 109, 109},
		{65535, 100, 109, 105},
		{65535, 0, 0, 0},
		{8, 7, 7, 7},
		{0, 65535, 65535, 65535},
		{0, 1, 65535, 1},
		{65535, 0, 65534, 0},
		// A number is not a route.
		{-1, 0, 9, 0},
		{-1, 5, 9, 0},
		{5, -1, 9, 0},
		{-1, -1, 9, 0},
		{5, -3, -1, 0},
		{65536, 7, 9, 0},
		{65536, 7, 65536, 0},
		{8, 7, 65536, 0},
		{6, 7, 65536, 0},
		{65536, 65536, 65536, 0},
		{8, 65536, 65536, 0},
		{math.MaxInt, 5, 9, 0},
		{math.MinInt, 5, 9, 0},
		{5, math.MinInt, 9, 0},
		{5, 4, math.MaxInt, 0},
		{5, math.MinInt, math.MaxInt, 0},
		// The span is empty.
		{5, 9, 3, 0},
		{9, 9, 8, 0},
		{8, 9, 8, 0},
		{5, 65535, 0, 0},
		{5, 65535, 1, 0},
	} {
		if got := digest.Into(c.route, c.low, c.high); got != c.want {
			t.Errorf("Into(%d, %d, %d) = %d, want %d", c.route, c.low, c.high, got, c.want)
		}
	}
}

// P2.4

func TestSumTellsOneByteApart(t *testing.T) {
	for _, text := range []string{"\x00", "a", "\xff\xff", "shard", "\x00\x00\x00\x00\x00\x00\x00\x00", "receipt handle 1"} {
		for at := range len(text) {
			met := map[int]bool{}
			b := []byte(text)
			for octet := range 256 {
				b[at] = byte(octet)
				met[digest.Sum(b)] = true
			}
			if len(met) != 256 {
				t.Errorf("the byte %d of %q gives only %d sums", at, text, len(met))
			}
		}
	}
}

func TestIntoKeepsItsResult(t *testing.T) {
	spans := [][2]int{{0, 0}, {0, 1}, {0, 65535}, {1, 65535}, {65535, 65535}, {100, 109}, {32768, 65535}, {0, 32767}, {7, 40000}}
	for _, span := range spans {
		low, high := span[0], span[1]
		for route := range api.Space {
			got := digest.Into(route, low, high)
			if got < low || got > high {
				t.Fatalf("Into(%d, %d, %d) = %d lies outside", route, low, high, got)
			}
			if again := digest.Into(got, low, high); again != got {
				t.Fatalf("Into(%d, %d, %d) = %d, and Into of that is %d", route, low, high, got, again)
			}
		}
	}
}

// Rules

// R1 and R2: every function returns for all arguments, and the same for equal ones.
func TestAllArguments(t *testing.T) {
	for _, x := range extremes {
		if got := digest.Route(x); got < 0 || got >= api.Space || got != digest.Route(x) {
			t.Errorf("Route(%d) = %d, and then %d", x, got, digest.Route(x))
		}
		for _, y := range extremes {
			for _, z := range extremes {
				if got := digest.Into(x, y, z); got < 0 || got >= api.Space || got != digest.Into(x, y, z) {
					t.Errorf("Into(%d, %d, %d) = %d, and then %d", x, y, z, got, digest.Into(x, y, z))
				}
			}
		}
	}
}

// R2: no function changes its argument or the room behind it.
func TestNothingIsChanged(t *testing.T) {
	whole := []byte{1, 2, 3, 4, 5}
	b := whole[:2]
	digest.Sum(b)
	digest.Check(b)
	digest.Check(b[:0])
	if !bytes.Equal(whole, []byte{1, 2, 3, 4, 5}) {
		t.Errorf("the memory of the argument was changed: %v", whole)
	}
}

// R3: a nil slice and an empty slice are the same.
func TestEmptyLists(t *testing.T) {
	if digest.Sum(nil) != digest.Sum([]byte{}) {
		t.Error("Sum tells nil from an empty slice")
	}
	if digest.Check(nil) != digest.Check([]byte{}) {
		t.Error("Check tells nil from an empty slice")
	}
}
