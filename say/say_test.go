package say

import (
	"math"
	"math/rand"
	"testing"

	"daybreak/api"
)

// mostCount is MaxCount as the document writes it out.
const mostCount = 1073741824

func cs(id int) api.Frame { return api.Frame{Kind: 1, Id: id} }

func info(id int) api.Frame { return api.Frame{Kind: 2, Id: id} }

// nothing is what a node says that says nothing.
var nothing = api.Frame{Kind: 0, Id: 0}

func listening(id, count int) api.Node { return api.Node{Id: id, Mode: 1, Count: count} }

func cold(id, count int) api.Node { return api.Node{Id: id, Mode: 2, Count: count} }

func active(id, count, pos int) api.Node { return api.Node{Id: id, Mode: 3, Count: count, Pos: pos} }

// check holds both calls of one node against what is to be answered.
func check(t *testing.T, n int, x api.Node, want api.Frame, we api.Errno, due int) {
	t.Helper()
	if f, e := Of(n, x); f != want || e != we {
		t.Errorf("Of(%d, %+v) = %v, %d, want %v, %d", n, x, f, e, want, we)
	}
	if got := Due(n, x); got != due {
		t.Errorf("Due(%d, %+v) = %d, want %d", n, x, got, due)
	}
}

// P8.1: what nodes say, and when, by such as are written out.
func TestKnown(t *testing.T) {
	cases := []struct {
		n    int
		x    api.Node
		want api.Frame
		due  int
	}{
		{3, active(1, 0, 1), info(1), 0},
		{3, active(0, 0, 0), info(0), 0},
		{3, active(0, 0, 1), nothing, 2},
		{3, active(0, 0, 2), nothing, 1},
		{3, active(2, 0, 0), nothing, 2},
		{8, active(7, 0, 7), info(7), 0},
		{8, active(7, 0, 0), nothing, 7},
		{8, active(0, 0, 7), nothing, 1},
		{5, active(1, 0, 4), nothing, 2},
		{3, listening(0, 0), nothing, 13},
		{3, listening(0, 12), nothing, 1},
		{3, listening(0, 13), cs(0), 0},
		{3, listening(0, 14), cs(0), 0},
		{3, listening(2, 14), nothing, 1},
		{3, listening(2, 15), cs(2), 0},
		{4, listening(1, 17), nothing, 1},
		{4, listening(1, 18), cs(1), 0},
		{8, listening(7, 0), nothing, 40},
		{8, listening(7, 39), nothing, 1},
		{8, listening(7, 40), cs(7), 0},
		{8, listening(7, mostCount), cs(7), 0},
		{3, cold(0, 0), nothing, 7},
		{3, cold(0, 6), nothing, 1},
		{3, cold(0, 7), cs(0), 0},
		{3, cold(0, 8), cs(0), 0},
		{4, cold(2, 10), nothing, 1},
		{4, cold(2, 11), cs(2), 0},
		{8, cold(7, 0), nothing, 24},
		{8, cold(7, 23), nothing, 1},
		{8, cold(7, 24), cs(7), 0},
		{8, cold(7, mostCount), cs(7), 0},
		{3, api.Node{}, nothing, -1},
		{3, api.Node{Id: 2}, nothing, -1},
		{8, api.Node{Id: 7}, nothing, -1},
	}
	for _, c := range cases {
		check(t, c.n, c.x, c.want, api.OK, c.due)
	}
}

// waits holds a node that goes by its Count against the time that it has, at all Counts around it.
func waits(t *testing.T, n, time int, with func(count int) api.Node) {
	t.Helper()
	for count := range time {
		check(t, n, with(count), nothing, api.OK, time-count)
	}
	for _, count := range []int{time, time + 1, 2 * time, 1 << 16, mostCount - 1, mostCount} {
		x := with(count)
		check(t, n, x, cs(x.Id), api.OK, 0)
	}
}

// P8.1: every node of every cluster says a Cs from its time on: Listen is 4 n and 1 and its Id, Cold 2 n and 1 and its Id.
func TestByCount(t *testing.T) {
	for n := 3; n <= 8; n++ {
		for id := range n {
			waits(t, n, 4*n+1+id, func(count int) api.Node { return listening(id, count) })
			waits(t, n, 2*n+1+id, func(count int) api.Node { return cold(id, count) })
		}
	}
}

// P8.1: every node of every cluster that is Active says an Info in its own slot, and nothing in others, whatever its Count.
func TestByPos(t *testing.T) {
	for n := 3; n <= 8; n++ {
		for id := range n {
			for ticks := range n {
				// The slot that is so many ticks ahead of the node's own.
				pos := (id + n - ticks) % n
				want := nothing
				if ticks == 0 {
					want = info(id)
				}
				for _, count := range []int{0, 1, 2*n + 1 + id, 4*n + 1 + id, 8*n - 1, 8 * n, mostCount} {
					check(t, n, active(id, count, pos), want, api.OK, ticks)
				}
			}
		}
	}
}

// P8.1: tick by tick in which nothing is heard, a node says nothing for so long as Due tells, and then something.
func TestDueTickByTick(t *testing.T) {
	for n := 3; n <= 8; n++ {
		for id := range n {
			begin := []api.Node{listening(id, 0), cold(id, 0), cold(id, 5), active(id, 0, 0), active(id, 3, n-1)}
			for _, x := range begin {
				for due := Due(n, x); due > 0; due-- {
					if f, e := Of(n, x); f != nothing || e != api.OK || Due(n, x) != due {
						t.Fatalf("of %d, %+v says %v, %d, and is due in %d, not in %d", n, x, f, e, Due(n, x), due)
					}
					x.Count++
					if x.Mode == 3 {
						x.Pos = (x.Pos + 1) % n
					}
				}
				if f, e := Of(n, x); f == nothing || e != api.OK || Due(n, x) != 0 {
					t.Fatalf("of %d, %+v says %v, %d, and is due in %d", n, x, f, e, Due(n, x))
				}
			}
		}
	}
}

// P8.1: a node that may not be is ErrArg and never due, though it would say something if that weren't looked at.
func TestWrongNode(t *testing.T) {
	wrong := []struct {
		n int
		x api.Node
	}{
		{4, listening(4, 99)}, {4, listening(-1, 99)}, {4, listening(math.MaxInt, 99)}, {4, listening(math.MinInt, 99)},
		{3, cold(3, 99)}, {8, cold(8, 99)}, {8, cold(-1, 99)}, {4, active(4, 0, 4)}, {4, active(-1, 0, -1)},
		{4, listening(1, mostCount+1)}, {4, listening(1, -1)}, {4, listening(1, math.MaxInt)}, {4, listening(1, math.MinInt)},
		{4, cold(1, mostCount+1)}, {4, cold(1, -1)}, {4, cold(1, math.MaxInt)}, {4, cold(1, math.MinInt)},
		{4, active(1, mostCount+1, 1)}, {4, active(1, -1, 1)}, {4, active(1, 0, 5)}, {4, active(1, 0, -3)}, {4, active(1, 0, 4)},
		{4, api.Node{Id: 1, Mode: 1, Count: 99, Pos: 1}}, {4, api.Node{Id: 1, Mode: 2, Count: 99, Pos: 1}}, {4, api.Node{Id: 1, Mode: 1, Count: 99, Pos: -1}},
		{4, api.Node{Id: 1, Count: 1}}, {4, api.Node{Id: 1, Count: 99}}, {4, api.Node{Id: 1, Pos: 1}}, {4, api.Node{Id: 4}}, {4, api.Node{Id: -1}},
		{4, api.Node{Id: 1, Mode: 4, Count: 99}}, {4, api.Node{Id: 1, Mode: -1, Count: 99}}, {4, api.Node{Id: 1, Mode: 1<<32 + 1, Count: 99}}, {4, api.Node{Id: 1, Mode: math.MaxInt, Pos: 1}},
	}
	for _, c := range wrong {
		check(t, c.n, c.x, nothing, api.ErrArg, -1)
	}
}

// P8.1: what is no number of nodes is ErrArg, of all nodes, and none of them is ever due.
func TestWrongNumber(t *testing.T) {
	for _, n := range []int{math.MinInt, math.MinInt + 4, -1 << 32, -8, -4, -3, -1, 0, 1, 2, 9, 10, 256, 260, 1<<32 + 4, math.MaxInt - 1, math.MaxInt} {
		for _, x := range []api.Node{{}, listening(0, 0), listening(0, mostCount), cold(0, mostCount), active(0, 0, 0), active(1, 0, 0), {Id: -1, Mode: 9}} {
			check(t, n, x, nothing, api.ErrArg, -1)
		}
	}
}

// mayBe is layer 6's definition, word by word.
func mayBe(n int, x api.Node) bool {
	all := n >= 3 && n <= 8
	all = all && x.Id >= 0 && x.Id <= n-1
	all = all && x.Mode >= 0 && x.Mode <= 3
	all = all && x.Count >= 0 && x.Count <= mostCount
	all = all && x.Pos >= 0 && x.Pos <= n-1
	all = all && (x.Mode == 3 || x.Pos == 0)
	return all && (x.Mode != 0 || x.Count == 0)
}

// said is what a node that may be says, by the chapter's words.
func said(n int, x api.Node) api.Frame {
	if x.Mode == 1 && x.Count >= 4*n+1+x.Id {
		return cs(x.Id)
	}
	if x.Mode == 2 && x.Count >= 2*n+1+x.Id {
		return cs(x.Id)
	}
	if x.Mode == 3 && x.Pos == x.Id {
		return info(x.Id)
	}
	return nothing
}

// anyNode is a node that holds anything, often such as may be; the seed is the caller's, so that a failure comes again.
func anyNode(r *rand.Rand) api.Node {
	x := api.Node{Id: r.Intn(8), Mode: r.Intn(4), Count: r.Intn(48)}
	if x.Mode == 3 {
		x.Pos = r.Intn(8)
	}
	ends := []int{math.MinInt, -1 << 32, -mostCount, -1, 0, 1, 3, 4, 8, 40, mostCount, mostCount + 1, 1 << 32, math.MaxInt}
	switch r.Intn(8) {
	case 0:
		x.Id = ends[r.Intn(len(ends))]
	case 1:
		x.Mode = ends[r.Intn(len(ends))]
	case 2:
		x.Count = ends[r.Intn(len(ends))]
	case 3:
		x.Pos = ends[r.Intn(len(ends))]
	}
	return x
}

// P8.1 and P8.2: whatever a node holds, it says a frame of its own Id, or nothing, by the chapter's words; and it is due in this tick if, and only if, it says something.
func TestAny(t *testing.T) {
	r := rand.New(rand.NewSource(8))
	loud := 0
	for range 200000 {
		n, x := r.Intn(8)+2, anyNode(r)
		f, e := Of(n, x)
		want, we := nothing, api.ErrArg
		if mayBe(n, x) {
			want, we = said(n, x), api.OK
		}
		if f != want || e != we {
			t.Fatalf("Of(%d, %+v) = %v, %d, want %v, %d", n, x, f, e, want, we)
		}
		if f != nothing {
			loud++
			if f.Id != x.Id || f.Kind != 1 && f.Kind != 2 {
				t.Fatalf("Of(%d, %+v) = %v: no frame of its own", n, x, f)
			}
		}
		due := Due(n, x)
		if (due == 0) != (f != nothing) || (due == -1) != (e != api.OK || x.Mode == 0) || due < -1 {
			t.Fatalf("Due(%d, %+v) = %d, and it says %v, %d", n, x, due, f, e)
		}
	}
	if loud == 0 {
		t.Fatal("nobody said anything at all")
	}
}
