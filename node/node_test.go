package node

import (
	"math"
	"math/rand"
	"testing"

	"daybreak/api"
)

// mostCount is MaxCount as the chapter writes it out.
const mostCount = 1073741824

// nodes are all the numbers of nodes, as the document writes them out.
var nodes = []int{3, 4, 5, 6, 7, 8}

// some are numbers around each end that the chapter names, and the ends of int.
func some() []int {
	l := []int{math.MinInt, math.MinInt + 1, -1 << 32, -1 << 31, -mostCount - 1, -mostCount}
	for x := -9; x <= 17; x++ {
		l = append(l, x)
	}
	return append(l, 255, 256, mostCount-1, mostCount, mostCount+1, 1<<31-1, 1<<31, 1<<32, 1<<32+1, math.MaxInt-1, math.MaxInt)
}

// anyNode is a node that holds anything; the seed is the caller's, so that a failure comes again.
func anyNode(r *rand.Rand) api.Node {
	l := some()
	one := func() int {
		if r.Intn(4) == 0 {
			return int(r.Uint64())
		}
		return l[r.Intn(len(l))]
	}
	return api.Node{Id: one(), Mode: one(), Count: one(), Pos: one()}
}

// mayBe is the chapter's definition, word by word.
func mayBe(n int, x api.Node) bool {
	all := n >= 3 && n <= 8
	all = all && x.Id >= 0 && x.Id <= n-1
	all = all && x.Mode >= 0 && x.Mode <= 3
	all = all && x.Count >= 0 && x.Count <= mostCount
	all = all && x.Pos >= 0 && x.Pos <= n-1
	if x.Mode != 3 {
		all = all && x.Pos == 0
	}
	if x.Mode == 0 {
		all = all && x.Count == 0
	}
	return all
}

// P6.1: which nodes may be, by such as are written out.
func TestRightOfKnown(t *testing.T) {
	cases := []struct {
		n    int
		x    api.Node
		want bool
	}{
		{4, api.Node{}, true},
		{4, api.Node{Id: 3}, true},
		{4, api.Node{Id: 4}, false},
		{4, api.Node{Id: -1}, false},
		{8, api.Node{Id: 7}, true},
		{8, api.Node{Id: 8}, false},
		{3, api.Node{Id: 2}, true},
		{3, api.Node{Id: 3}, false},
		{2, api.Node{}, false},
		{9, api.Node{}, false},
		{0, api.Node{}, false},
		{-4, api.Node{}, false},
		{4, api.Node{Count: 1}, false},
		{4, api.Node{Count: -1}, false},
		{4, api.Node{Pos: 1}, false},
		{4, api.Node{Pos: -1}, false},
		{4, api.Node{Mode: api.Listen}, true},
		{4, api.Node{Mode: api.Listen, Count: 1}, true},
		{4, api.Node{Mode: api.Listen, Count: mostCount}, true},
		{4, api.Node{Mode: api.Listen, Count: mostCount + 1}, false},
		{4, api.Node{Mode: api.Listen, Count: -1}, false},
		{4, api.Node{Mode: api.Listen, Pos: 1}, false},
		{4, api.Node{Mode: api.Listen, Pos: -1}, false},
		{4, api.Node{Mode: api.Cold, Count: 7}, true},
		{4, api.Node{Mode: api.Cold, Count: mostCount}, true},
		{4, api.Node{Mode: api.Cold, Count: mostCount + 1}, false},
		{4, api.Node{Mode: api.Cold, Count: -1}, false},
		{4, api.Node{Mode: api.Cold, Pos: 3}, false},
		{4, api.Node{Mode: api.Active}, true},
		{4, api.Node{Id: 1, Mode: api.Active, Count: mostCount, Pos: 3}, true},
		{4, api.Node{Mode: api.Active, Pos: 4}, false},
		{4, api.Node{Mode: api.Active, Pos: -1}, false},
		{4, api.Node{Mode: api.Active, Count: -1}, false},
		{4, api.Node{Mode: api.Active, Count: mostCount + 1}, false},
		{8, api.Node{Mode: api.Active, Pos: 7}, true},
		{8, api.Node{Mode: api.Active, Pos: 8}, false},
		{4, api.Node{Mode: 4}, false},
		{4, api.Node{Mode: -1}, false},
		{4, api.Node{Mode: math.MaxInt}, false},
		{4, api.Node{Mode: math.MinInt}, false},
	}
	for _, c := range cases {
		if got := Right(c.n, c.x); got != c.want {
			t.Errorf("Right(%d, %+v) = %v, want %v", c.n, c.x, got, c.want)
		}
	}
}

// P6.1: which nodes may be, of all that stand around the ends, by the chapter's words.
func TestRightOfAny(t *testing.T) {
	edges := []int{math.MinInt, -1, 0, 1, 2, 3, 4, 7, 8, mostCount, mostCount + 1, math.MaxInt}
	for _, n := range []int{math.MinInt, -3, 0, 2, 3, 4, 5, 6, 7, 8, 9, math.MaxInt} {
		for _, id := range edges {
			for _, mode := range edges {
				for _, count := range edges {
					for _, pos := range edges {
						x := api.Node{Id: id, Mode: mode, Count: count, Pos: pos}
						if got, want := Right(n, x), mayBe(n, x); got != want {
							t.Fatalf("Right(%d, %+v) = %v, want %v", n, x, got, want)
						}
					}
				}
			}
		}
	}
}

// P6.1: each node of each cluster begins Init, with all else 0.
func TestFresh(t *testing.T) {
	for _, n := range nodes {
		for id := range n {
			x, e := Fresh(n, id)
			if e != api.OK || x != (api.Node{Id: id, Mode: 0, Count: 0, Pos: 0}) {
				t.Errorf("Fresh(%d, %d) = %+v, %d", n, id, x, e)
			}
			if !Right(n, x) {
				t.Errorf("Fresh(%d, %d) = %+v may not be", n, id, x)
			}
		}
	}
}

// P6.1: no number of nodes is named ahead of no such node, by Fresh and Clean alike, and beside an error stands a zero node.
func TestErrors(t *testing.T) {
	x := api.Node{Id: 1, Mode: api.Active, Count: 5, Pos: 2}
	for _, n := range some() {
		for _, id := range some() {
			want := api.OK
			if n < 3 || n > 8 {
				want = api.ErrArg
			} else if id < 0 || id > n-1 {
				want = api.ErrRange
			}
			a, e := Fresh(n, id)
			b, f := Clean(n, id, x)
			if e != want || f != want {
				t.Errorf("of %d nodes, the node %d: Fresh says %d, Clean says %d, want %d", n, id, e, f, want)
			}
			if want != api.OK && (a != api.Node{} || b != api.Node{}) {
				t.Errorf("of %d nodes, the node %d: beside an error %+v and %+v", n, id, a, b)
			}
		}
	}
}

// P6.1: nodes made right, by such as are written out.
func TestCleanOfKnown(t *testing.T) {
	cases := []struct {
		n, id   int
		x, want api.Node
	}{
		{4, 0, api.Node{}, api.Node{Mode: api.Listen}},
		{4, 0, api.Node{Mode: 9}, api.Node{Mode: api.Listen}},
		{4, 1, api.Node{Mode: 4, Count: 6, Pos: 2}, api.Node{Id: 1, Mode: api.Listen, Count: 6}},
		{4, 1, api.Node{Mode: -1, Count: 6, Pos: 2}, api.Node{Id: 1, Mode: api.Listen, Count: 6}},
		{4, 1, api.Node{Mode: math.MaxInt}, api.Node{Id: 1, Mode: api.Listen}},
		{4, 1, api.Node{Mode: math.MinInt}, api.Node{Id: 1, Mode: api.Listen}},
		{4, 2, api.Node{Mode: api.Init, Count: 5, Pos: 3}, api.Node{Id: 2, Mode: api.Listen, Count: 5}},
		{4, 2, api.Node{Mode: api.Listen, Count: 5, Pos: 3}, api.Node{Id: 2, Mode: api.Listen, Count: 5}},
		{4, 2, api.Node{Mode: api.Cold, Count: 5, Pos: -3}, api.Node{Id: 2, Mode: api.Cold, Count: 5}},
		{4, 2, api.Node{Mode: api.Active, Count: 5, Pos: 3}, api.Node{Id: 2, Mode: api.Active, Count: 5, Pos: 3}},
		{4, 3, api.Node{Id: 1, Mode: api.Active, Pos: 4}, api.Node{Id: 3, Mode: api.Active}},
		{4, 3, api.Node{Id: -7, Mode: api.Active, Pos: 7}, api.Node{Id: 3, Mode: api.Active, Pos: 3}},
		{4, 3, api.Node{Id: 99, Mode: api.Active, Pos: -1}, api.Node{Id: 3, Mode: api.Active, Pos: 3}},
		{3, 0, api.Node{Mode: api.Active, Pos: math.MaxInt}, api.Node{Mode: api.Active, Pos: 1}},
		{7, 6, api.Node{Mode: api.Active, Pos: math.MinInt}, api.Node{Id: 6, Mode: api.Active, Pos: 6}},
		{5, 0, api.Node{Mode: api.Active, Count: -1}, api.Node{Mode: api.Active}},
		{5, 0, api.Node{Mode: api.Active, Count: mostCount}, api.Node{Mode: api.Active, Count: mostCount}},
		{5, 0, api.Node{Mode: api.Active, Count: mostCount + 1}, api.Node{Mode: api.Active, Count: mostCount}},
		{5, 0, api.Node{Mode: api.Cold, Count: math.MaxInt}, api.Node{Mode: api.Cold, Count: mostCount}},
		{5, 0, api.Node{Mode: api.Listen, Count: math.MinInt}, api.Node{Mode: api.Listen}},
		{5, 0, api.Node{Mode: 8, Count: mostCount + 1}, api.Node{Mode: api.Listen, Count: mostCount}},
	}
	for _, c := range cases {
		got, e := Clean(c.n, c.id, c.x)
		if e != api.OK || got != c.want {
			t.Errorf("Clean(%d, %d, %+v) = %+v, %d, want %+v", c.n, c.id, c.x, got, e, c.want)
		}
	}
}

// P6.1: each field of a node that holds anything, made right by the chapter's words.
func TestCleanOfAny(t *testing.T) {
	r := rand.New(rand.NewSource(6))
	for range 20000 {
		n := nodes[r.Intn(len(nodes))]
		id := r.Intn(n)
		x := anyNode(r)
		got, e := Clean(n, id, x)
		if e != api.OK || got.Id != id {
			t.Fatalf("Clean(%d, %d, %+v) = %+v, %d", n, id, x, got, e)
		}
		mode := x.Mode
		if mode != 1 && mode != 2 && mode != 3 {
			mode = 1
		}
		count := x.Count
		if count < 0 {
			count = 0
		} else if count > mostCount {
			count = mostCount
		}
		pos := 0
		if mode == 3 {
			pos = (x.Pos%n + n) % n
		}
		if got.Mode != mode || got.Count != count || got.Pos != pos {
			t.Fatalf("Clean(%d, %d, %+v) = %+v, want Mode %d, Count %d, Pos %d", n, id, x, got, mode, count, pos)
		}
	}
}

// P6.1: a node wakes with its Id alone, whatever it holds.
func TestWake(t *testing.T) {
	r := rand.New(rand.NewSource(7))
	for range 5000 {
		x := anyNode(r)
		want := api.Node{Id: x.Id, Mode: 1, Count: 0, Pos: 0}
		if got := Wake(x); got != want {
			t.Fatalf("Wake(%+v) = %+v, want %+v", x, got, want)
		}
	}
	if got := Wake(api.Node{Id: 2, Mode: api.Active, Count: 9, Pos: 3}); got != (api.Node{Id: 2, Mode: api.Listen}) {
		t.Errorf("Wake of an active node = %+v", got)
	}
}

// P6.2: what is made right may be, and isn't Init, and made right once more it stays.
func TestCleanMayBe(t *testing.T) {
	r := rand.New(rand.NewSource(8))
	for range 20000 {
		n := nodes[r.Intn(len(nodes))]
		id := r.Intn(n)
		x := anyNode(r)
		once, _ := Clean(n, id, x)
		if !Right(n, once) || !mayBe(n, once) || once.Mode == api.Init {
			t.Fatalf("Clean(%d, %d, %+v) = %+v may not be, or is Init", n, id, x, once)
		}
		if twice, e := Clean(n, id, once); e != api.OK || twice != once {
			t.Fatalf("Clean(%d, %d, %+v) = %+v, %d", n, id, once, twice, e)
		}
	}
}

// P6.2: what may be, and isn't Init, stays as it is; what may be and is Init doesn't.
func TestCleanStays(t *testing.T) {
	counts := []int{0, 1, 2, 40, 1999, 1 << 16, mostCount - 1, mostCount}
	for _, n := range nodes {
		for id := range n {
			for mode := 1; mode <= 3; mode++ {
				for _, count := range counts {
					for pos := range n {
						x := api.Node{Id: id, Mode: mode, Count: count, Pos: pos}
						if !mayBe(n, x) {
							continue
						}
						if got, e := Clean(n, id, x); e != api.OK || got != x {
							t.Errorf("Clean(%d, %d, %+v) = %+v, %d", n, id, x, got, e)
						}
					}
				}
			}
			x := api.Node{Id: id}
			if got, e := Clean(n, id, x); e != api.OK || got != (api.Node{Id: id, Mode: api.Listen}) {
				t.Errorf("Clean(%d, %d, %+v) = %+v, %d", n, id, x, got, e)
			}
		}
	}
}
