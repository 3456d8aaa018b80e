package wire

import (
	"hash/crc32"
	"math"
	"math/rand"
	"strings"
	"testing"

	"daybreak/api"
)

// The bytes of all frames that may be sent, with sums that are known from elsewhere.
var known = []struct {
	f api.Frame
	s string
}{
	{api.Frame{Kind: api.Cs, Id: 0}, "\xd8\x01\x00\x65\xc0\x8c\xdb"},
	{api.Frame{Kind: api.Cs, Id: 1}, "\xd8\x01\x01\x12\xc7\xbc\x4d"},
	{api.Frame{Kind: api.Cs, Id: 2}, "\xd8\x01\x02\x8b\xce\xed\xf7"},
	{api.Frame{Kind: api.Cs, Id: 3}, "\xd8\x01\x03\xfc\xc9\xdd\x61"},
	{api.Frame{Kind: api.Cs, Id: 4}, "\xd8\x01\x04\x62\xad\x48\xc2"},
	{api.Frame{Kind: api.Cs, Id: 5}, "\xd8\x01\x05\x15\xaa\x78\x54"},
	{api.Frame{Kind: api.Cs, Id: 6}, "\xd8\x01\x06\x8c\xa3\x29\xee"},
	{api.Frame{Kind: api.Cs, Id: 7}, "\xd8\x01\x07\xfb\xa4\x19\x78"},
	{api.Frame{Kind: api.Info, Id: 0}, "\xd8\x02\x00\x4e\xed\xdf\x18"},
	{api.Frame{Kind: api.Info, Id: 1}, "\xd8\x02\x01\x39\xea\xef\x8e"},
	{api.Frame{Kind: api.Info, Id: 2}, "\xd8\x02\x02\xa0\xe3\xbe\x34"},
	{api.Frame{Kind: api.Info, Id: 3}, "\xd8\x02\x03\xd7\xe4\x8e\xa2"},
	{api.Frame{Kind: api.Info, Id: 4}, "\xd8\x02\x04\x49\x80\x1b\x01"},
	{api.Frame{Kind: api.Info, Id: 5}, "\xd8\x02\x05\x3e\x87\x2b\x97"},
	{api.Frame{Kind: api.Info, Id: 6}, "\xd8\x02\x06\xa7\x8e\x7a\x2d"},
	{api.Frame{Kind: api.Info, Id: 7}, "\xd8\x02\x07\xd0\x89\x4a\xbb"},
}

var noise = api.Frame{Kind: api.Noise}

// Numbers around those that may be, and such as look like them when they are cut off to a byte or to 32 bits.
var odd = []int{
	math.MinInt, math.MinInt + 1, math.MinInt32, -256, -255, -254, -8, -3, -2, -1,
	0, 1, 2, 3, 4, 5, 6, 7, 8, 9, 127, 128, 216, 255, 256, 257, 258, 259, 263, 264, 512, 513,
	math.MaxInt32, 1<<32 + 1, 1<<32 + 2, 1<<32 + 3, math.MaxInt - 1, math.MaxInt,
}

// find is the bytes of f that are known, and whether it may be sent.
func find(f api.Frame) (string, bool) {
	for _, k := range known {
		if k.f == f {
			return k.s, true
		}
	}
	return "", false
}

// summed is bytes with their true sum behind them.
func summed(s string) string {
	n := crc32.ChecksumIEEE([]byte(s))
	return s + string([]byte{byte(n >> 24), byte(n >> 16), byte(n >> 8), byte(n)})
}

// noisy tells each of the texts that isn't read as Noise.
func noisy(t *testing.T, texts ...string) {
	t.Helper()
	for _, s := range texts {
		if got := Get(s); got != noise {
			t.Errorf("Get(%q) = %v, want %v", s, got, noise)
		}
	}
}

// P2.1: a Cs and an Info of 0 to 7 may be sent, and nothing else.
func TestRight(t *testing.T) {
	n := 0
	for _, kind := range odd {
		for _, id := range odd {
			f := api.Frame{Kind: kind, Id: id}
			_, want := find(f)
			if got := Right(f); got != want {
				t.Errorf("Right(%v) = %t, want %t", f, got, want)
			}
			if want {
				n++
			}
		}
	}
	if n != 16 {
		t.Errorf("%d frames may be sent, want 16", n)
	}
}

// P2.1: a frame's bytes.
func TestPutOfFrames(t *testing.T) {
	for _, k := range known {
		if got := Put(k.f); got != k.s {
			t.Errorf("Put(%v) = %q, want %q", k.f, got, k.s)
		}
	}
}

// P2.1: no bytes of what may not be sent, but one of Noise.
func TestPutOfTheRest(t *testing.T) {
	for _, kind := range odd {
		for _, id := range odd {
			f := api.Frame{Kind: kind, Id: id}
			if _, is := find(f); is {
				continue
			}
			want := ""
			if kind == api.Noise {
				want = "\x00"
			}
			if got := Put(f); got != want {
				t.Errorf("Put(%v) = %q, want %q", f, got, want)
			}
		}
	}
}

// P2.1 and P2.2: what frames' bytes are read as.
func TestGetOfFrames(t *testing.T) {
	for _, k := range known {
		if got := Get(k.s); got != k.f {
			t.Errorf("Get(%q) = %v, want %v", k.s, got, k.f)
		}
		if got := Get(Put(k.f)); got != k.f {
			t.Errorf("Get(Put(%v)) = %v", k.f, got)
		}
	}
}

// P2.1: no bytes are None, one of them is Noise.
func TestGetOfFewBytes(t *testing.T) {
	if got := Get(""); got != (api.Frame{}) {
		t.Errorf("Get of no bytes = %v, want None 0", got)
	}
	if got := Get(Put(api.Frame{Kind: api.None, Id: 3})); got != (api.Frame{}) {
		t.Errorf("Get(Put of None 3) = %v, want None 0", got)
	}
	for _, id := range odd {
		noisy(t, Put(api.Frame{Kind: api.Noise, Id: id}))
	}
	for b := range 256 {
		noisy(t, string([]byte{byte(b)}))
	}
}

// P2.1: bytes that are too few, or too many, are Noise.
func TestGetOfWrongLength(t *testing.T) {
	for _, k := range known {
		for n := 1; n < len(k.s); n++ {
			noisy(t, k.s[:n], k.s[n:])
		}
		noisy(t, k.s+"\x00", "\x00"+k.s, k.s+k.s, k.s+k.s[:1], k.s+k.s[6:], k.s+strings.Repeat("\x00", 1<<16))
	}
	for n := 1; n < 40; n++ {
		if n != 7 {
			noisy(t, strings.Repeat("\x00", n), strings.Repeat("\xff", n), strings.Repeat("\xd8", n))
		}
	}
	// The sum is right, but not that of three bytes.
	noisy(t, summed(""), summed("\xd8"), summed("\xd8\x01"), summed("\xd8\x01\x00\x00"), summed(known[0].s))
}

// P2.1: a right sum behind bytes that no frame begins with is Noise.
func TestGetOfRightSums(t *testing.T) {
	for b := range 256 {
		if b != 216 {
			noisy(t, summed(string([]byte{byte(b), api.Cs, 0})), summed(string([]byte{byte(b), api.Info, 7})))
		}
		if b != api.Cs && b != api.Info {
			noisy(t, summed(string([]byte{216, byte(b), 0})), summed(string([]byte{216, byte(b), 7})))
		}
		if b > 7 {
			noisy(t, summed(string([]byte{216, api.Cs, byte(b)})), summed(string([]byte{216, api.Info, byte(b)})))
		}
	}
}

// P2.1: bytes with a sum that isn't theirs are Noise.
func TestGetOfWrongSums(t *testing.T) {
	for i, k := range known {
		for j, other := range known {
			if i != j {
				noisy(t, k.s[:3]+other.s[3:])
			}
		}
		sum := k.s[3:]
		noisy(t,
			k.s[:3]+"\x00\x00\x00\x00",
			k.s[:3]+"\xff\xff\xff\xff",
			k.s[:3]+string([]byte{sum[3], sum[2], sum[1], sum[0]}),
			k.s[:3]+string([]byte{^sum[0], ^sum[1], ^sum[2], ^sum[3]}))
	}
}

// P2.2: bytes that are changed in one bit are Noise, and so in one byte.
func TestOneBit(t *testing.T) {
	for _, k := range known {
		for at := range len(k.s) {
			for change := 1; change < 256; change++ {
				b := []byte(k.s)
				b[at] ^= byte(change)
				noisy(t, string(b))
			}
		}
	}
}

// P2.1: a frame is read of its own bytes alone, whatever the bytes.
func TestAnyBytes(t *testing.T) {
	r := rand.New(rand.NewSource(1))
	for range 100000 {
		b := make([]byte, 1+r.Intn(9))
		r.Read(b)
		if len(b) > 2 && r.Intn(2) == 0 {
			b[0], b[1], b[2] = 216, byte(r.Intn(4)), byte(r.Intn(10))
		}
		s := string(b)
		if len(b) == 3 {
			s = summed(s)
		}
		want := noise
		for _, k := range known {
			if k.s == s {
				want = k.f
			}
		}
		if got := Get(s); got != want {
			t.Errorf("Get(%q) = %v, want %v", s, got, want)
		}
	}
}
