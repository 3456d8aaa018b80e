package ring

import (
	"math"
	"math/big"
	"math/rand"
	"testing"
)

// The greatest number of slots, and the greatest age, for which the calls are asked.
const (
	mostSlots = 8
	mostAge   = 1 << 40
)

// some are numbers around 0, around those at which a narrower kind would go round, and any; the seed is fixed, so that a failure comes again.
func some() []int {
	l := []int{math.MinInt, math.MinInt + 1, math.MaxInt - 1, math.MaxInt}
	for _, mid := range []int{0, 1 << 7, 1 << 8, 1 << 15, 1 << 16, 1 << 31, 1 << 32, 1 << 40, 1 << 53} {
		for d := -20; d <= 20; d++ {
			l = append(l, mid+d, -mid+d)
		}
	}
	r := rand.New(rand.NewSource(5))
	for range 200 {
		l = append(l, int(r.Uint64()))
	}
	return l
}

// left is what is left of the sum of xs divided by n, with numbers that have no end.
func left(n int, xs ...int) int {
	sum := new(big.Int)
	for _, x := range xs {
		sum.Add(sum, big.NewInt(int64(x)))
	}
	// big's Mod, unlike its Rem, answers from 0 on.
	return int(sum.Mod(sum, big.NewInt(int64(n))).Int64())
}

// P5.1: what is left, by numbers that are written out.
func TestModOfKnown(t *testing.T) {
	cases := []struct{ n, x, want int }{
		{4, 0, 0}, {4, 1, 1}, {4, 3, 3}, {4, 4, 0}, {4, 5, 1}, {4, 7, 3}, {4, 8, 0},
		{4, -1, 3}, {4, -3, 1}, {4, -4, 0}, {4, -5, 3}, {4, -7, 1}, {4, -8, 0},
		{3, 7, 1}, {3, -1, 2}, {3, -2, 1}, {3, -3, 0}, {3, -7, 2}, {7, -50, 6}, {8, 2000, 0}, {8, -1, 7}, {8, -9, 7},
		{1, 0, 0}, {1, 5, 0}, {1, -5, 0}, {2, 5, 1}, {2, -5, 1},
		{1, math.MaxInt, 0}, {2, math.MaxInt, 1}, {3, math.MaxInt, 1}, {4, math.MaxInt, 3}, {5, math.MaxInt, 2}, {6, math.MaxInt, 1}, {7, math.MaxInt, 0}, {8, math.MaxInt, 7},
		{1, math.MinInt, 0}, {2, math.MinInt, 0}, {3, math.MinInt, 1}, {4, math.MinInt, 0}, {5, math.MinInt, 2}, {6, math.MinInt, 4}, {7, math.MinInt, 6}, {8, math.MinInt, 0},
	}
	for _, c := range cases {
		if got := Mod(c.n, c.x); got != c.want {
			t.Errorf("Mod(%d, %d) = %d, want %d", c.n, c.x, got, c.want)
		}
	}
}

// P5.1: what is left, of any number.
func TestModOfAny(t *testing.T) {
	for n := 1; n <= mostSlots; n++ {
		for _, x := range some() {
			if got, want := Mod(n, x), left(n, x); got != want {
				t.Errorf("Mod(%d, %d) = %d, want %d", n, x, got, want)
			}
		}
	}
}

// P5.1: the slot behind each of a round; the last one has the first behind it.
func TestNext(t *testing.T) {
	for n := 1; n <= mostSlots; n++ {
		for pos := range n - 1 {
			if got := Next(n, pos); got != pos+1 {
				t.Errorf("Next(%d, %d) = %d, want %d", n, pos, got, pos+1)
			}
		}
		if got := Next(n, n-1); got != 0 {
			t.Errorf("Next(%d, %d) = %d, want 0", n, n-1, got)
		}
	}
}

// P5.1: the slot that is now, by numbers that are written out.
func TestAtOfKnown(t *testing.T) {
	cases := []struct{ n, p, age, want int }{
		{4, 3, 2, 1}, {4, 3, 0, 3}, {4, 3, 1, 0}, {4, 0, 3, 3}, {4, 0, 4, 0}, {4, 2, 4, 2}, {4, 2, 9, 3},
		{3, 2, 7, 0}, {5, 1, 0, 1}, {8, 7, 1, 0}, {8, 7, 7, 6}, {8, 7, 16, 7}, {1, 0, 0, 0}, {1, 0, 9, 0}, {2, 1, 3, 0},
		{3, 0, mostAge, 1}, {3, 2, mostAge, 0}, {5, 4, mostAge, 0}, {7, 6, mostAge, 1}, {8, 7, mostAge, 7}, {7, 6, mostAge - 1, 0},
		{3, 1, 1 << 31, 0}, {3, 1, 1 << 32, 2}, {5, 3, 1<<31 - 1, 0},
	}
	for _, c := range cases {
		if got := At(c.n, c.p, c.age); got != c.want {
			t.Errorf("At(%d, %d, %d) = %d, want %d", c.n, c.p, c.age, got, c.want)
		}
	}
}

// P5.1: the slot that is now is as many slots behind p as there were ticks.
func TestAtTickByTick(t *testing.T) {
	for n := 1; n <= mostSlots; n++ {
		for p := range n {
			now := p
			for age := range 5 * n {
				if got := At(n, p, age); got != now {
					t.Errorf("At(%d, %d, %d) = %d, want %d", n, p, age, got, now)
				}
				now = Next(n, now)
			}
		}
	}
}

// P5.1: the slot that is now, of any age that there may be.
func TestAtOfAny(t *testing.T) {
	for n := 1; n <= mostSlots; n++ {
		for p := range n {
			for _, x := range some() {
				if x < 0 || x > mostAge {
					continue
				}
				if got, want := At(n, p, x), left(n, p, x); got != want {
					t.Errorf("At(%d, %d, %d) = %d, want %d", n, p, x, got, want)
				}
			}
		}
	}
}

// P5.1: the ticks between two slots, by numbers that are written out.
func TestAheadOfKnown(t *testing.T) {
	cases := []struct{ n, a, b, want int }{
		{5, 4, 1, 2}, {5, 1, 4, 3}, {5, 2, 2, 0}, {5, 0, 4, 4}, {5, 4, 0, 1}, {5, 3, 4, 1}, {5, 4, 3, 4},
		{3, 0, 0, 0}, {3, 0, 2, 2}, {3, 2, 0, 1}, {3, 1, 0, 2}, {4, 3, 0, 1}, {8, 7, 0, 1}, {8, 0, 7, 7}, {8, 7, 6, 7}, {8, 7, 7, 0},
		{1, 0, 0, 0}, {2, 0, 1, 1}, {2, 1, 0, 1}, {2, 1, 1, 0},
	}
	for _, c := range cases {
		if got := Ahead(c.n, c.a, c.b); got != c.want {
			t.Errorf("Ahead(%d, %d, %d) = %d, want %d", c.n, c.a, c.b, got, c.want)
		}
	}
}

// stepped is how many slots one goes on from a until one comes to b.
func stepped(n, a, b int) int {
	for k := range n {
		if (a+k)%n == b {
			return k
		}
	}
	return -1
}

// P5.1 and P5.2: so many ticks ahead of a is b, told by Next and by At, and no fewer ticks come to it.
func TestAheadOfAll(t *testing.T) {
	for n := 1; n <= mostSlots; n++ {
		for a := range n {
			for b := range n {
				ahead := Ahead(n, a, b)
				if want := stepped(n, a, b); ahead != want {
					t.Fatalf("Ahead(%d, %d, %d) = %d, want %d", n, a, b, ahead, want)
				}
				now := a
				for range ahead {
					now = Next(n, now)
				}
				if now != b {
					t.Errorf("%d ticks ahead of %d of %d is %d, want %d", ahead, a, n, now, b)
				}
				if got := At(n, a, ahead); got != b {
					t.Errorf("At(%d, %d, %d) = %d, want %d", n, a, ahead, got, b)
				}
			}
		}
	}
}

// Of a round without a slot nothing is promised; the calls end all the same, and tell no slot beyond the first.
func TestNoSlots(t *testing.T) {
	for _, n := range []int{math.MinInt, -8, -1, 0} {
		for _, x := range some() {
			for _, got := range []int{Mod(n, x), Next(n, x), At(n, x, 1), Ahead(n, 0, x)} {
				if got != 0 {
					t.Errorf("of %d slots, %d: %d, want 0", n, x, got)
				}
			}
		}
	}
}
