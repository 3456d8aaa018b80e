package conf

import (
	"math"
	"testing"

	"daybreak/api"
)

// The times of all nodes, in the order Block, Watch, Later, Start, Stable, and those of the node 0, Cold and Listen.
var known = map[int][7]int{
	3: {6, 24, 9, 120, 288, 7, 13},
	4: {8, 32, 12, 160, 384, 9, 17},
	5: {10, 40, 15, 200, 480, 11, 21},
	6: {12, 48, 18, 240, 576, 13, 25},
	7: {14, 56, 21, 280, 672, 15, 29},
	8: {16, 64, 24, 320, 768, 17, 33},
}

// Numbers around those that may be, and such as look like them when they are cut off to a byte or to 32 bits.
var odd = []int{
	math.MinInt, math.MinInt + 1, math.MinInt + 4, math.MinInt32, -1<<32 + 4, -256, -252, -8, -4, -3, -2, -1,
	0, 1, 2, 3, 4, 5, 6, 7, 8, 9, 10, 16, 255, 256, 259, 260, 264, 2000,
	math.MaxInt32, 1 << 32, 1<<32 + 3, 1<<32 + 8, math.MaxInt - 1, math.MaxInt,
}

// P3.1: the numbers of nodes are 3 to 8.
func TestRight(t *testing.T) {
	for _, n := range odd {
		_, want := known[n]
		if got := Right(n); got != want {
			t.Errorf("Right(%d) = %t, want %t", n, got, want)
		}
	}
}

// P3.1: the times that all nodes share, and 0 of what is no number of nodes.
func TestShared(t *testing.T) {
	for _, n := range odd {
		want := known[n]
		got := [5]int{Block(n), Watch(n), Later(n), Start(n), Stable(n)}
		if got != [5]int(want[:5]) {
			t.Errorf("the times of %d nodes are %v, want %v", n, got, want[:5])
		}
	}
}

// wanted is what is to be answered, of the time that the node 0 of n has.
func wanted(first, n, i int) (int, api.Errno) {
	if _, is := known[n]; !is {
		return 0, api.ErrArg
	}
	for k := range n {
		if k == i {
			return first + k, api.OK
		}
	}
	return 0, api.ErrRange
}

// P3.1: the times that each node has for itself; ErrArg goes ahead of ErrRange.
func TestOwn(t *testing.T) {
	for _, n := range odd {
		for _, i := range odd {
			want, we := wanted(known[n][5], n, i)
			if got, e := Cold(n, i); got != want || e != we {
				t.Errorf("Cold(%d, %d) = %d, %d, want %d, %d", n, i, got, e, want, we)
			}
			want, we = wanted(known[n][6], n, i)
			if got, e := Listen(n, i); got != want || e != we {
				t.Errorf("Listen(%d, %d) = %d, %d, want %d, %d", n, i, got, e, want, we)
			}
		}
	}
}

// all is what a call answers for each node of n.
func all(t *testing.T, call func(n, i int) (int, api.Errno), n int) []int {
	t.Helper()
	var times []int
	for i := range n {
		time, e := call(n, i)
		if e != api.OK {
			t.Fatalf("the node %d of %d has no time: %d", i, n, e)
		}
		times = append(times, time)
	}
	return times
}

// unlike tells two nodes that have one time.
func unlike(t *testing.T, what string, times []int) {
	t.Helper()
	seen := map[int]int{}
	for i, time := range times {
		if k, is := seen[time]; is {
			t.Errorf("%s: the nodes %d and %d of %d both have %d", what, k, i, len(times), time)
		}
		seen[time] = i
	}
}

// P3.2: no two nodes have one time; Block is below every Cold, and every Cold below every Listen.
func TestOrder(t *testing.T) {
	for n := api.MinNodes; n <= api.MaxNodes; n++ {
		colds, listens := all(t, Cold, n), all(t, Listen, n)
		unlike(t, "Cold", colds)
		unlike(t, "Listen", listens)
		for i, c := range colds {
			if c <= Block(n) {
				t.Errorf("Cold(%d, %d) = %d isn't above Block, %d", n, i, c, Block(n))
			}
			for k, l := range listens {
				if l <= c {
					t.Errorf("Listen(%d, %d) = %d isn't above Cold(%d, %d) = %d", n, k, l, n, i, c)
				}
			}
		}
	}
}
