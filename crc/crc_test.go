package crc

import (
	"hash/crc32"
	"math/rand"
	"strings"
	"testing"
)

// The tests' random numbers begin at a fixed seed, so that a failure comes again.
func someBytes(r *rand.Rand, n int) string {
	b := make([]byte, n)
	r.Read(b)
	return string(b)
}

// P1.1: the sum, by numbers that are known from elsewhere.
func TestSumOfKnownBytes(t *testing.T) {
	cases := []struct {
		in   string
		want uint32
	}{
		{"123456789", 3421780262},
		{"", 0},
		{"a", 3904355907},
		{"abc", 0x352441C2},
		{"\x00", 0xD202EF8D},
		{"\x00\x00\x00\x00", 0x2144DF1C},
		{"\xff", 0xFF000000},
		{"\xff\xff\xff\xff", 0xFFFFFFFF},
		{"The quick brown fox jumps over the lazy dog", 0x414FA339},
		{strings.Repeat("\x00", 32), 0x190A55AD},
		{strings.Repeat("\xff", 32), 0xFF6CAB0B},
	}
	for _, c := range cases {
		if got := Sum(c.in); got != c.want {
			t.Errorf("Sum(%q) = %#x, want %#x", c.in, got, c.want)
		}
	}
}

// P1.1: the sum, held against the library's.
func TestSumOfAnyBytes(t *testing.T) {
	for b := range 256 {
		s := string([]byte{byte(b)})
		if got, want := Sum(s), crc32.ChecksumIEEE([]byte(s)); got != want {
			t.Errorf("Sum(%q) = %#x, want %#x", s, got, want)
		}
	}
	r := rand.New(rand.NewSource(1))
	for n := range 600 {
		s := someBytes(r, n)
		if got, want := Sum(s), crc32.ChecksumIEEE([]byte(s)); got != want {
			t.Errorf("Sum of %d bytes = %#x, want %#x", n, got, want)
		}
	}
	long := someBytes(r, 1<<20)
	if got, want := Sum(long), crc32.ChecksumIEEE([]byte(long)); got != want {
		t.Errorf("Sum of 2^20 bytes = %#x, want %#x", got, want)
	}
}

// slowAdd does by halves what the chapter says with shifts.
func slowAdd(r uint32, b byte) uint32 {
	r ^= uint32(b)
	for range 8 {
		odd := r%2 == 1
		r /= 2
		if odd {
			r ^= 3988292384
		}
	}
	return r
}

// P1.1: the register behind one byte more.
func TestAdd(t *testing.T) {
	known := []struct {
		r    uint32
		b    byte
		want uint32
	}{
		{0, 0, 0},
		{0, 128, 3988292384},
		{128, 128, 0},
		{0, 1, 0x77073096},
		{255, 254, 0x77073096},
		{256, 0, 1},
		{1 << 31, 0, 1 << 23},
		{0xFFFFFFFF, 0, 0x2DFD1072},
		{0xFFFFFFFF, 255, 0x00FFFFFF},
	}
	for _, c := range known {
		if got := Add(c.r, c.b); got != c.want {
			t.Errorf("Add(%#x, %d) = %#x, want %#x", c.r, c.b, got, c.want)
		}
	}
	rnd := rand.New(rand.NewSource(2))
	regs := []uint32{0, 1, 127, 128, 255, 256, 1 << 31, 0x7FFFFFFF, 0xFFFFFFFE, 0xFFFFFFFF}
	for range 40 {
		regs = append(regs, rnd.Uint32())
	}
	for _, r := range regs {
		for b := range 256 {
			want := slowAdd(r, byte(b))
			if got := Add(r, byte(b)); got != want {
				t.Errorf("Add(%#x, %d) = %#x, want %#x", r, b, got, want)
			}
			if lib := ^crc32.Update(^r, crc32.IEEETable, []byte{byte(b)}); lib != want {
				t.Errorf("library's register behind %#x, %d is %#x, want %#x", r, b, lib, want)
			}
		}
	}
}

// P1.1: bytes that are added one by one make the sum.
func TestAddsMakeTheSum(t *testing.T) {
	rnd := rand.New(rand.NewSource(3))
	for n := range 40 {
		s := someBytes(rnd, n)
		r := uint32(0xFFFFFFFF)
		for i := range len(s) {
			r = Add(r, s[i])
		}
		if ^r != Sum(s) {
			t.Errorf("added one by one %q makes %#x, its sum is %#x", s, ^r, Sum(s))
		}
	}
}

var fours = []struct {
	n uint32
	s string
}{
	{0, "\x00\x00\x00\x00"},
	{1, "\x00\x00\x00\x01"},
	{255, "\x00\x00\x00\xff"},
	{256, "\x00\x00\x01\x00"},
	{65535, "\x00\x00\xff\xff"},
	{65536, "\x00\x01\x00\x00"},
	{16909060, "\x01\x02\x03\x04"},
	{1 << 24, "\x01\x00\x00\x00"},
	{1<<31 - 1, "\x7f\xff\xff\xff"},
	{1 << 31, "\x80\x00\x00\x00"},
	{3421780262, "\xcb\xf4\x39\x26"},
	{1<<32 - 1, "\xff\xff\xff\xff"},
}

// P1.1: four bytes, the highest first, and back.
func TestFourAndValue(t *testing.T) {
	for _, c := range fours {
		if got := Four(c.n); got != c.s {
			t.Errorf("Four(%d) = %q, want %q", c.n, got, c.s)
		}
		if n, is := Value(c.s); n != c.n || !is {
			t.Errorf("Value(%q) = %d, %t, want %d, true", c.s, n, is, c.n)
		}
	}
	rnd := rand.New(rand.NewSource(4))
	for range 1000 {
		n := rnd.Uint32()
		if back, is := Value(Four(n)); back != n || !is {
			t.Errorf("Value(Four(%d)) = %d, %t", n, back, is)
		}
		s := someBytes(rnd, 4)
		if v, is := Value(s); !is || Four(v) != s {
			t.Errorf("Value(%q) = %d, %t, and its Four %q", s, v, is, Four(v))
		}
	}
}

// P1.1: texts that are no number's four bytes.
func TestValueOfWrongLength(t *testing.T) {
	wrong := []string{
		"", "\x00", "\x01\x02", "\x01\x02\x03", "\x01\x02\x03\x04\x05",
		"\x00\x00\x00\x00\x00", "\xff\xff\xff\xff\xff\xff\xff\xff", "äää", strings.Repeat("\x01", 1000),
	}
	for _, s := range wrong {
		if n, is := Value(s); n != 0 || is {
			t.Errorf("Value(%q) = %d, %t, want 0, false", s, n, is)
		}
	}
}

// turned is s with the bits of mask turned from the bit at on, in the order in which the sum takes them: the lowest bit of a byte first.
func turned(s string, at int, mask uint32) string {
	b := []byte(s)
	for k := range 32 {
		if mask>>k&1 == 1 {
			b[(at+k)/8] ^= 1 << ((at + k) % 8)
		}
	}
	return string(b)
}

// run is a mask of bits that are set one behind the other.
func run(bits int) uint32 {
	return uint32(1<<bits - 1)
}

// P1.2: 1 to 32 bits that stand one behind the other, all of them turned, wherever they stand.
func TestRowsOfBits(t *testing.T) {
	rnd := rand.New(rand.NewSource(5))
	for _, n := range []int{1, 2, 3, 4, 5, 7, 12, 20} {
		for _, s := range []string{strings.Repeat("\x00", n), strings.Repeat("\xff", n), someBytes(rnd, n)} {
			sum := Sum(s)
			for bits := 1; bits <= min(32, 8*n); bits++ {
				for at := 0; at+bits <= 8*n; at++ {
					if Sum(turned(s, at, run(bits))) == sum {
						t.Errorf("%q has the same sum with %d bits turned from bit %d on", s, bits, at)
					}
				}
			}
		}
	}
}

// P1.2: any of 32 bits in a row, turned or left.
func TestBitsWithinARow(t *testing.T) {
	rnd := rand.New(rand.NewSource(6))
	for range 20000 {
		s := someBytes(rnd, 4+rnd.Intn(12))
		at := rnd.Intn(8*len(s) - 31)
		mask := rnd.Uint32()
		if mask != 0 && Sum(turned(s, at, mask)) == Sum(s) {
			t.Errorf("%q has the same sum with the bits %#x turned from bit %d on", s, mask, at)
		}
	}
}

// rank is how many of the numbers are no sum (exclusive or) of the others.
func rank(l []uint32) int {
	n := 0
	for bit := range 32 {
		at := n
		for at < len(l) && l[at]>>bit&1 == 0 {
			at++
		}
		if at == len(l) {
			continue
		}
		l[n], l[at] = l[at], l[n]
		for i := range l {
			if i != n && l[i]>>bit&1 == 1 {
				l[i] ^= l[n]
			}
		}
		n++
	}
	return n
}

// P1.2: what a turned bit changes of the sum doesn't hang on the other bits, and what 32 in a row change adds up to 0 for none of their choices: so it holds for all of them.
func TestNoChoiceOfARowIsHidden(t *testing.T) {
	s := someBytes(rand.New(rand.NewSource(7)), 24)
	sum := Sum(s)
	for at := 0; at+32 <= 8*len(s); at++ {
		changes := make([]uint32, 32)
		all := uint32(0)
		for k := range changes {
			changes[k] = Sum(turned(s, at+k, 1)) ^ sum
			all ^= changes[k]
		}
		if Sum(turned(s, at, run(32)))^sum != all {
			t.Errorf("bits from %d on don't change the sum each by itself", at)
		}
		if got := rank(changes); got != 32 {
			t.Errorf("32 bits from bit %d on change only %d of the sum's bits independently", at, got)
		}
	}
}

// P1.2: a row may be counted from a byte's highest bit too.
func TestRowsFromTheHighestBit(t *testing.T) {
	s := someBytes(rand.New(rand.NewSource(8)), 12)
	sum := Sum(s)
	for at := range 8 * len(s) {
		b := []byte(s)
		for k := at; k < min(at+32, 8*len(s)); k++ {
			b[k/8] ^= 128 >> (k % 8)
			if Sum(string(b)) == sum {
				t.Errorf("%q has the same sum with the bits %d to %d turned, highest first", s, at, k)
			}
		}
	}
}
