package tally

import (
	"math"
	"math/big"
	"math/rand"
	"testing"
)

// The ends of int, and numbers at which a narrower kind would go round.
var edges = []int{
	math.MinInt, math.MinInt + 1, math.MinInt + 2, math.MinInt32 - 1, math.MinInt32, -1 << 30, -257, -256, -129, -128, -5, -3, -2, -1,
	0, 1, 2, 3, 4, 5, 7, 127, 128, 255, 256, 2000, 1<<30 - 1, 1 << 30, 1<<30 + 1,
	math.MaxInt32, math.MaxInt32 + 1, 1 << 32, math.MaxInt - 2, math.MaxInt - 1, math.MaxInt,
}

// P4.1: counted up, by numbers that are written out.
func TestUpOfKnown(t *testing.T) {
	cases := []struct{ c, most, want int }{
		{0, 3, 1}, {1, 3, 2}, {2, 3, 3}, {3, 3, 3}, {4, 3, 3}, {9, 3, 3},
		{0, 0, 0}, {1, 0, 0}, {0, 1, 1}, {1, 1, 1}, {2, 1, 1},
		{-1, 3, 1}, {-2, 3, 1}, {-5, 3, 1}, {-1, 1, 1}, {-1, 0, 0}, {-5, 0, 0},
		{0, -1, -1}, {5, -1, -1}, {-1, -1, -1}, {-5, -1, -1}, {-5, -9, -9}, {-9, -5, -5},
		{1<<30 - 1, 1 << 30, 1 << 30}, {1 << 30, 1 << 30, 1 << 30}, {1<<30 + 1, 1 << 30, 1 << 30},
		{math.MaxInt, math.MaxInt, math.MaxInt}, {math.MaxInt - 1, math.MaxInt, math.MaxInt}, {math.MaxInt - 2, math.MaxInt, math.MaxInt - 1},
		{math.MaxInt, math.MaxInt - 1, math.MaxInt - 1}, {math.MaxInt - 1, math.MaxInt - 1, math.MaxInt - 1},
		{math.MaxInt, 3, 3}, {math.MaxInt, 0, 0}, {math.MaxInt, math.MinInt, math.MinInt},
		{math.MinInt, 3, 1}, {math.MinInt, 0, 0}, {math.MinInt, math.MaxInt, 1}, {math.MinInt, math.MinInt, math.MinInt}, {0, math.MinInt, math.MinInt},
	}
	for _, c := range cases {
		if got := Up(c.c, c.most); got != c.want {
			t.Errorf("Up(%d, %d) = %d, want %d", c.c, c.most, got, c.want)
		}
	}
}

// P4.1: counted down, by numbers that are written out.
func TestDownOfKnown(t *testing.T) {
	cases := []struct{ c, want int }{
		{0, 0}, {1, 0}, {2, 1}, {3, 2}, {256, 255}, {1 << 30, 1<<30 - 1}, {1 << 32, 1<<32 - 1},
		{-1, 0}, {-2, 0}, {-100, 0},
		{math.MaxInt, math.MaxInt - 1}, {math.MinInt, 0}, {math.MinInt + 1, 0},
	}
	for _, c := range cases {
		if got := Down(c.c); got != c.want {
			t.Errorf("Down(%d) = %d, want %d", c.c, got, c.want)
		}
	}
}

// P4.1: held within bounds, by numbers that are written out; of a least above most too.
func TestClampOfKnown(t *testing.T) {
	cases := []struct{ c, least, most, want int }{
		{3, 0, 4, 3}, {0, 0, 4, 0}, {4, 0, 4, 4}, {-1, 0, 4, 0}, {5, 0, 4, 4}, {2, 2, 2, 2}, {1, 2, 2, 2}, {3, 2, 2, 2},
		{-3, -5, -2, -3}, {-6, -5, -2, -5}, {-1, -5, -2, -2}, {0, -5, 5, 0},
		{3, 7, 4, 7}, {4, 7, 4, 7}, {5, 7, 4, 7}, {6, 7, 4, 7}, {7, 7, 4, 4}, {8, 7, 4, 4}, {9, 7, 4, 4},
		{-3, -1, -2, -1}, {-1, -1, -2, -2}, {0, -1, -2, -2},
		{math.MinInt, math.MinInt, math.MaxInt, math.MinInt}, {math.MaxInt, math.MinInt, math.MaxInt, math.MaxInt}, {0, math.MinInt, math.MaxInt, 0},
		{math.MinInt, 0, 4, 0}, {math.MaxInt, 0, 4, 4},
		{0, math.MaxInt, math.MinInt, math.MaxInt}, {math.MinInt, math.MaxInt, math.MinInt, math.MaxInt}, {math.MaxInt, math.MaxInt, math.MinInt, math.MinInt},
	}
	for _, c := range cases {
		if got := Clamp(c.c, c.least, c.most); got != c.want {
			t.Errorf("Clamp(%d, %d, %d) = %d, want %d", c.c, c.least, c.most, got, c.want)
		}
	}
}

// clamped says the chapter's words of Clamp in their order.
func clamped(c, least, most *big.Int) *big.Int {
	switch {
	case c.Cmp(least) < 0:
		return least
	case c.Cmp(most) > 0:
		return most
	}
	return c
}

// upped says the chapter's words of Up, with numbers that have no end.
func upped(c, most *big.Int) *big.Int {
	next := new(big.Int).Add(c, big.NewInt(1))
	if c.Sign() < 0 {
		next = big.NewInt(1)
	}
	if c.Cmp(most) > 0 || next.Cmp(most) > 0 {
		return most
	}
	return next
}

// downed says the chapter's words of Down, with numbers that have no end.
func downed(c *big.Int) *big.Int {
	less := new(big.Int).Sub(c, big.NewInt(1))
	if less.Sign() < 0 {
		return new(big.Int)
	}
	return less
}

// whole is n without an end of its kind.
func whole(n int) *big.Int { return big.NewInt(int64(n)) }

// is tells whether got is the number want.
func is(got int, want *big.Int) bool { return whole(got).Cmp(want) == 0 }

// some are the edges and numbers near each other and far apart; the seed is fixed, so that a failure comes again.
func some() []int {
	r := rand.New(rand.NewSource(4))
	l := append([]int(nil), edges...)
	for range 20 {
		l = append(l, r.Intn(24)-8, int(r.Uint64()))
	}
	return l
}

// P4.1: all three, at any numbers, held against the chapter's words.
func TestAnyNumbers(t *testing.T) {
	l := some()
	for _, c := range l {
		if got, want := Down(c), downed(whole(c)); !is(got, want) {
			t.Errorf("Down(%d) = %d, want %d", c, got, want)
		}
		for _, most := range l {
			if got, want := Up(c, most), upped(whole(c), whole(most)); !is(got, want) {
				t.Errorf("Up(%d, %d) = %d, want %d", c, most, got, want)
			}
			for _, least := range l {
				if got, want := Clamp(c, least, most), clamped(whole(c), whole(least), whole(most)); !is(got, want) {
					t.Errorf("Clamp(%d, %d, %d) = %d, want %d", c, least, most, got, want)
				}
			}
		}
	}
}

// P4.2: wherever a counter begins, it stays at most most, however often it is counted up; there it stays.
func TestUpAsOftenAsOneLikes(t *testing.T) {
	for _, most := range edges {
		for _, first := range some() {
			c := first
			for k := range 300 {
				ahead := c
				c = Up(c, most)
				if c > most {
					t.Fatalf("%d, counted up %d times to at most %d, is %d", first, k+1, most, c)
				}
				if ahead == most && c != most {
					t.Fatalf("%d, counted up %d times, left %d for %d", first, k+1, most, c)
				}
			}
		}
	}
}

// P4.2: a counter comes to its most by ones, and does not go round there.
func TestUpComesToMost(t *testing.T) {
	for _, most := range []int{0, 1, 3, 8, 64, 255, 256, 2000, 1 << 17} {
		c := 0
		for k := 1; k <= most+10; k++ {
			c = Up(c, most)
			if want := min(k, most); c != want {
				t.Fatalf("counted up %d times to at most %d: %d, want %d", k, most, c, want)
			}
		}
	}
	for _, most := range []int{1 << 30, math.MaxInt32, 1 << 32, math.MaxInt} {
		c := most - 5
		for k := 1; k <= 300; k++ {
			c = Up(c, most)
			if want := most - 5 + min(k, 5); c != want {
				t.Fatalf("%d, counted up %d times to at most %d: %d, want %d", most-5, k, most, c, want)
			}
		}
	}
}
