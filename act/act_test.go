package act

import (
	"math"
	"math/rand"
	"testing"

	"daybreak/api"
)

// mostCount is MaxCount as the document writes it out.
const mostCount = 1073741824

// two is what is heard of both channels.
type two = [2]api.Frame

func cs(id int) api.Frame { return api.Frame{Kind: 1, Id: id} }

func info(id int) api.Frame { return api.Frame{Kind: 2, Id: id} }

// nothing is a channel on which nothing is heard.
var nothing = api.Frame{Kind: 0, Id: 0}

func listening(id, count int) api.Node { return api.Node{Id: id, Mode: 1, Count: count} }

func cold(id, count int) api.Node { return api.Node{Id: id, Mode: 2, Count: count} }

func active(id, count, pos int) api.Node { return api.Node{Id: id, Mode: 3, Count: count, Pos: pos} }

// checkStep holds Step against what is to be answered.
func checkStep(t *testing.T, n int, x api.Node, h two, want api.Node, we api.Errno) {
	t.Helper()
	if y, e := Step(n, x, h); y != want || e != we {
		t.Fatalf("Step(%d, %+v, %v) = %+v, %d, want %+v, %d", n, x, h, y, e, want, we)
	}
}

// checkQuiet holds Quiet against what is to be answered.
func checkQuiet(t *testing.T, n int, x api.Node, ticks int, want api.Node, we api.Errno) {
	t.Helper()
	if y, e := Quiet(n, x, ticks); y != want || e != we {
		t.Fatalf("Quiet(%d, %+v, %d) = %+v, %d, want %+v, %d", n, x, ticks, y, e, want, we)
	}
}

// known is a tick of a node that is written out.
type known struct {
	n    int
	x    api.Node
	h    two
	want api.Node
}

func checkKnown(t *testing.T, cases []known) {
	t.Helper()
	for _, c := range cases {
		checkStep(t, c.n, c.x, c.h, c.want, api.OK)
	}
}

// P9.1: what becomes of one that listens, by such as are written out.
func TestListen(t *testing.T) {
	checkKnown(t, []known{
		{4, listening(1, 5), two{}, listening(1, 6)},
		{4, listening(1, 16), two{}, listening(1, 17)},
		{4, listening(1, 17), two{}, listening(1, 18)},
		// It says a Cs.
		{4, listening(1, 18), two{}, cold(1, 0)},
		{4, listening(1, 19), two{cs(1), cs(1)}, cold(1, 0)},
		{3, listening(0, mostCount), two{}, cold(0, 0)},
		{8, listening(7, 39), two{}, listening(7, 40)},
		{8, listening(7, 40), two{}, cold(7, 0)},
		// It hears a Cs: another one's, not its own.
		{4, listening(1, 5), two{cs(3), nothing}, cold(1, 0)},
		{4, listening(1, 5), two{nothing, cs(0)}, cold(1, 0)},
		{4, listening(1, 5), two{cs(1), cs(2)}, cold(1, 0)},
		{4, listening(1, 0), two{cs(2), cs(1)}, cold(1, 0)},
		{4, listening(1, 5), two{cs(1), cs(1)}, listening(1, 6)},
		{4, listening(0, 5), two{cs(0), nothing}, listening(0, 6)},
		{4, listening(1, 18), two{cs(3), nothing}, cold(1, 0)},
		// It hears an Info: the first one is what counts, ahead of each Cs, and its own one, too.
		{4, listening(1, 5), two{info(2), nothing}, active(1, 0, 3)},
		{4, listening(1, 5), two{nothing, info(3)}, active(1, 0, 0)},
		{4, listening(1, 5), two{info(0), info(2)}, active(1, 0, 1)},
		{4, listening(1, 5), two{info(2), info(0)}, active(1, 0, 3)},
		{4, listening(1, 5), two{cs(0), info(2)}, active(1, 0, 3)},
		{4, listening(1, 5), two{info(2), cs(0)}, active(1, 0, 3)},
		{4, listening(1, 18), two{nothing, info(0)}, active(1, 0, 1)},
		{4, listening(1, 5), two{info(1), nothing}, active(1, 0, 2)},
		{3, listening(0, 0), two{info(2), info(2)}, active(0, 0, 0)},
		{8, listening(3, 0), two{info(2), info(2)}, active(3, 0, 3)},
		{8, listening(3, 0), two{info(7), nothing}, active(3, 0, 0)},
	})
}

// P9.1: what becomes of one that is cold, by such as are written out.
func TestCold(t *testing.T) {
	checkKnown(t, []known{
		{4, cold(1, 5), two{}, cold(1, 6)},
		{4, cold(1, 9), two{}, cold(1, 10)},
		// It says a Cs.
		{4, cold(1, 10), two{}, cold(1, 0)},
		{4, cold(1, 11), two{cs(1), cs(1)}, cold(1, 0)},
		{3, cold(0, mostCount), two{}, cold(0, 0)},
		{8, cold(7, 23), two{}, cold(7, 24)},
		{8, cold(7, 24), two{}, cold(7, 0)},
		// It hears a Cs: the first other one's, ahead of its own time.
		{4, cold(0, 5), two{cs(1), nothing}, active(0, 0, 2)},
		{4, cold(1, 5), two{nothing, cs(3)}, active(1, 0, 0)},
		{4, cold(1, 5), two{cs(1), cs(0)}, active(1, 0, 1)},
		{4, cold(1, 5), two{cs(2), cs(0)}, active(1, 0, 3)},
		{4, cold(1, 5), two{cs(0), cs(2)}, active(1, 0, 1)},
		{4, cold(1, 10), two{cs(2), cs(1)}, active(1, 0, 3)},
		{4, cold(1, 5), two{cs(1), nothing}, cold(1, 6)},
		{4, cold(0, 5), two{cs(0), cs(0)}, cold(0, 6)},
		{8, cold(0, 5), two{cs(7), nothing}, active(0, 0, 0)},
		// It hears an Info: as one that listens.
		{4, cold(1, 5), two{info(2), nothing}, active(1, 0, 3)},
		{4, cold(1, 5), two{cs(0), info(2)}, active(1, 0, 3)},
		{4, cold(1, 5), two{info(3), cs(0)}, active(1, 0, 0)},
		{4, cold(1, 10), two{info(0), info(2)}, active(1, 0, 1)},
		{4, cold(1, 5), two{info(1), nothing}, active(1, 0, 2)},
	})
}

// P9.1: what becomes of one that is Active, by such as are written out.
func TestActive(t *testing.T) {
	checkKnown(t, []known{
		{4, active(1, 5, 2), two{}, active(1, 6, 3)},
		{4, active(1, 5, 3), two{}, active(1, 6, 0)},
		{4, active(1, 0, 1), two{}, active(1, 1, 2)},
		{3, active(1, 0, 2), two{}, active(1, 1, 0)},
		{8, active(1, 0, 2), two{}, active(1, 1, 3)},
		// Its own Cs is none that it hears.
		{4, active(1, 5, 2), two{cs(1), cs(1)}, active(1, 6, 3)},
		{4, active(0, 5, 2), two{cs(0), nothing}, active(0, 6, 3)},
		// It hears the Info of its slot, be it its own, or another one's.
		{4, active(1, 5, 3), two{info(3), nothing}, active(1, 0, 0)},
		{4, active(1, 5, 3), two{nothing, info(3)}, active(1, 0, 0)},
		{4, active(1, 5, 1), two{info(1), info(1)}, active(1, 0, 2)},
		{4, active(1, 5, 0), two{info(0), cs(1)}, active(1, 0, 1)},
		{4, active(1, 31, 3), two{info(3), nothing}, active(1, 0, 0)},
		{4, active(1, 32, 3), two{info(3), nothing}, active(1, 0, 0)},
		{4, active(1, mostCount, 0), two{info(0), nothing}, active(1, 0, 1)},
		// It hears an Info of another slot, beside anything.
		{4, active(1, 5, 3), two{info(2), nothing}, listening(1, 0)},
		{4, active(1, 5, 3), two{nothing, info(1)}, listening(1, 0)},
		{4, active(1, 5, 3), two{info(3), info(2)}, listening(1, 0)},
		{4, active(1, 5, 3), two{info(2), info(3)}, listening(1, 0)},
		{4, active(1, 5, 3), two{cs(2), info(0)}, listening(1, 0)},
		{4, active(1, 5, 3), two{info(0), cs(2)}, listening(1, 0)},
		{4, active(1, 5, 1), two{info(0), info(1)}, listening(1, 0)},
		// It hears a Cs of another one, beside the Info of its slot, too.
		{4, active(1, 5, 3), two{cs(2), nothing}, cold(1, 0)},
		{4, active(1, 5, 3), two{cs(3), nothing}, cold(1, 0)},
		{4, active(1, 5, 3), two{cs(1), cs(0)}, cold(1, 0)},
		{4, active(1, 5, 3), two{info(3), cs(2)}, cold(1, 0)},
		{4, active(1, 5, 1), two{cs(2), info(1)}, cold(1, 0)},
		{4, active(1, 31, 3), two{cs(2), nothing}, cold(1, 0)},
		{4, active(1, 31, 3), two{info(2), nothing}, listening(1, 0)},
		// It hears nothing of its slot for too long.
		{4, active(1, 30, 3), two{}, active(1, 31, 0)},
		{4, active(1, 31, 3), two{}, listening(1, 0)},
		{4, active(1, 31, 1), two{}, listening(1, 0)},
		{4, active(1, 31, 3), two{cs(1), nothing}, listening(1, 0)},
		{4, active(1, 32, 3), two{}, listening(1, 0)},
		{4, active(1, mostCount-1, 3), two{}, listening(1, 0)},
		{4, active(1, mostCount, 3), two{}, listening(1, 0)},
		{3, active(0, 22, 2), two{}, active(0, 23, 0)},
		{3, active(0, 23, 2), two{}, listening(0, 0)},
		{8, active(7, 62, 0), two{}, active(7, 63, 1)},
		{8, active(7, 63, 0), two{}, listening(7, 0)},
	})
}

// P9.1: quiet ticks that are written out, up to the most.
func TestQuietKnown(t *testing.T) {
	cases := []struct {
		n     int
		x     api.Node
		ticks int
		want  api.Node
	}{
		{4, listening(1, 5), 0, listening(1, 5)},
		{4, cold(1, 99), 0, cold(1, 99)},
		{4, active(1, mostCount, 3), 0, active(1, mostCount, 3)},
		{4, listening(1, 5), 1, listening(1, 6)},
		{4, listening(1, 5), 13, listening(1, 18)},
		{4, listening(1, 5), 14, cold(1, 0)},
		{4, listening(1, 5), 24, cold(1, 10)},
		{4, listening(1, 5), 25, cold(1, 0)},
		{4, listening(1, 0), 1000, cold(1, 2)},
		{4, cold(1, 0), 10, cold(1, 10)},
		{4, cold(1, 0), 11, cold(1, 0)},
		{4, active(1, 0, 0), 31, active(1, 31, 3)},
		{4, active(1, 0, 0), 32, listening(1, 0)},
		{4, active(1, 0, 0), 50, listening(1, 18)},
		{4, active(1, 0, 0), 51, cold(1, 0)},
		{4, active(1, 0, 0), 999, cold(1, 2)},
		{4, active(1, 0, 0), 1000, cold(1, 3)},
		{3, active(2, 0, 1), 23, active(2, 23, 0)},
		{3, active(2, 0, 1), 24, listening(2, 0)},
		{8, active(2, mostCount, 1), 1, listening(2, 0)},
		{8, active(2, 0, 1), 63, active(2, 63, 0)},
		{8, active(2, 0, 1), 64, listening(2, 0)},
	}
	for _, c := range cases {
		checkQuiet(t, c.n, c.x, c.ticks, c.want, api.OK)
	}
}

// P9.1: ticks that are not from 0 to 1000 are ErrRange, but behind a node that may not be, or is Init.
func TestQuietWrongTicks(t *testing.T) {
	for _, ticks := range []int{math.MinInt, -1 << 32, -1000, -1, 1001, 2000, 1 << 32, 1<<32 + 5, math.MaxInt} {
		for _, x := range []api.Node{listening(1, 5), cold(1, 5), active(1, 5, 3)} {
			checkQuiet(t, 4, x, ticks, api.Node{}, api.ErrRange)
			checkQuiet(t, 9, x, ticks, api.Node{}, api.ErrArg)
		}
		checkQuiet(t, 4, api.Node{Id: 1}, ticks, api.Node{}, api.ErrArg)
		checkQuiet(t, 4, listening(4, 0), ticks, api.Node{}, api.ErrArg)
	}
}

// wrong holds both calls of a node of which there is nothing to tell, whatever it hears, and for however long it is quiet.
func wrong(t *testing.T, n int, x api.Node) {
	t.Helper()
	for _, h := range []two{{}, {info(0), nothing}, {cs(0), cs(2)}, {info(0), cs(2)}} {
		checkStep(t, n, x, h, api.Node{}, api.ErrArg)
	}
	for _, ticks := range []int{-1, 0, 1, 1000, 1001} {
		checkQuiet(t, n, x, ticks, api.Node{}, api.ErrArg)
	}
}

// P9.1: a node that may not be, or that is Init, is ErrArg.
func TestWrongNode(t *testing.T) {
	for n := 3; n <= 8; n++ {
		for id := range n {
			wrong(t, n, api.Node{Id: id})
		}
	}
	for _, x := range []api.Node{
		listening(4, 5), listening(-1, 5), listening(math.MaxInt, 5), listening(math.MinInt, 5), listening(1<<32+1, 5),
		cold(4, 5), cold(-1, 99), active(4, 0, 3), active(-1, 0, 3),
		listening(1, -1), listening(1, mostCount+1), listening(1, math.MaxInt), listening(1, math.MinInt),
		cold(1, -1), cold(1, mostCount+1), cold(1, math.MaxInt), cold(1, math.MinInt),
		active(1, -1, 3), active(1, mostCount+1, 3), active(1, math.MaxInt, 3), active(1, math.MinInt, 3),
		active(1, 0, 4), active(1, 0, -1), active(1, 0, 1<<32), active(1, 0, math.MaxInt), active(1, 0, math.MinInt),
		{Id: 1, Mode: 1, Count: 5, Pos: 1}, {Id: 1, Mode: 2, Count: 5, Pos: 3}, {Id: 1, Mode: 2, Count: 5, Pos: -1},
		{Id: 1, Mode: 4}, {Id: 1, Mode: -1}, {Id: 1, Mode: 1<<32 + 1}, {Id: 1, Mode: math.MaxInt}, {Id: 1, Mode: math.MinInt},
		{Id: 1, Count: 1}, {Id: 1, Pos: 1}, {Id: 4}, {Id: -1},
	} {
		wrong(t, 4, x)
	}
}

// P9.1: what is no number of nodes is ErrArg, of all nodes.
func TestWrongNumber(t *testing.T) {
	for _, n := range []int{math.MinInt, math.MinInt + 4, -1 << 32, -8, -4, -3, -1, 0, 1, 2, 9, 10, 256, 260, 1<<32 + 4, math.MaxInt - 1, math.MaxInt} {
		for _, x := range []api.Node{{}, listening(0, 0), listening(0, mostCount), cold(0, 5), active(0, 0, 0), active(1, 0, 0), {Id: -1, Mode: 9}} {
			wrong(t, n, x)
		}
	}
}

// mayBe is layer 6's definition, word by word.
func mayBe(n int, x api.Node) bool {
	all := n >= 3 && n <= 8
	all = all && x.Id >= 0 && x.Id <= n-1
	all = all && x.Mode >= 0 && x.Mode <= 3
	all = all && x.Count >= 0 && x.Count <= mostCount
	all = all && x.Pos >= 0 && x.Pos <= n-1
	all = all && (x.Mode == 3 || x.Pos == 0)
	return all && (x.Mode != 0 || x.Count == 0)
}

// heard is how many of h, if any, are of that kind and of one whom ask asks for, and the Id of the first one.
func heard(h two, kind int, ask func(id int) bool) (int, int) {
	first, many := 0, 0
	for _, f := range h {
		if f.Kind == kind && ask(f.Id) {
			if many == 0 {
				first = f.Id
			}
			many++
		}
	}
	return first, many
}

// becomes is what becomes of a node that may be, and isn't Init, by the chapter's words.
func becomes(n int, x api.Node, h two) api.Node {
	anInfo, infos := heard(h, 2, func(int) bool { return true })
	other, others := heard(h, 1, func(id int) bool { return id != x.Id })
	_, unlike := heard(h, 2, func(id int) bool { return id != x.Pos })
	up := min(x.Count+1, mostCount)
	switch {
	case x.Mode == 1 && infos > 0, x.Mode == 2 && infos > 0:
		return active(x.Id, 0, (anInfo+1)%n)
	case x.Mode == 1 && (x.Count >= 4*n+1+x.Id || others > 0):
		return cold(x.Id, 0)
	case x.Mode == 1:
		return listening(x.Id, up)
	case x.Mode == 2 && others > 0:
		return active(x.Id, 0, (other+1)%n)
	case x.Mode == 2 && x.Count >= 2*n+1+x.Id:
		return cold(x.Id, 0)
	case x.Mode == 2:
		return cold(x.Id, up)
	case unlike > 0:
		return listening(x.Id, 0)
	case others > 0:
		return cold(x.Id, 0)
	case infos > 0:
		return active(x.Id, 0, (x.Pos+1)%n)
	case up >= 8*n:
		return listening(x.Id, 0)
	default:
		return active(x.Id, up, (x.Pos+1)%n)
	}
}

// frames is all that may be heard on one channel, of n nodes.
func frames(n int) []api.Frame {
	all := []api.Frame{nothing}
	for id := range n {
		all = append(all, cs(id), info(id))
	}
	return all
}

// nodes is every node of n that goes on, with Counts about its times and at their ends.
func nodes(n int) []api.Node {
	var all []api.Node
	for id := range n {
		for _, count := range []int{0, 1, 2*n + id, 2*n + 1 + id, 2*n + 2 + id, 4*n + id, 4*n + 1 + id, 4*n + 2 + id, 8*n - 2, 8*n - 1, 8 * n, mostCount - 1, mostCount} {
			all = append(all, listening(id, count), cold(id, count))
			for pos := range n {
				all = append(all, active(id, count, pos))
			}
		}
	}
	return all
}

// P9.1 and P9.2: every node of every cluster, whatever it hears, by the chapter's words; and what becomes of it may be.
func TestAll(t *testing.T) {
	for n := 3; n <= 8; n++ {
		said := frames(n)
		for _, x := range nodes(n) {
			for _, a := range said {
				for _, b := range said {
					want := becomes(n, x, two{a, b})
					checkStep(t, n, x, two{a, b}, want, api.OK)
					if !mayBe(n, want) || want.Mode == 0 || want.Id != x.Id {
						t.Fatalf("of %d, %+v, that hears %v and %v, is %+v, which may not be", n, x, a, b, want)
					}
				}
			}
		}
	}
}

// P9.2: whoever hears an Info, and nothing else, is Active in the slot behind it, or listens, if it was Active in another slot.
func TestInfoAlone(t *testing.T) {
	for n := 3; n <= 8; n++ {
		for _, x := range nodes(n) {
			for id := range n {
				for _, h := range []two{{info(id), nothing}, {nothing, info(id)}, {info(id), info(id)}} {
					y, e := Step(n, x, h)
					in := y == active(x.Id, 0, (id+1)%n)
					if e != api.OK || !in && y != listening(x.Id, 0) || in != (x.Mode != 3 || x.Pos == id) {
						t.Fatalf("of %d, %+v, that hears %v, is %+v, %d", n, x, h, y, e)
					}
				}
			}
		}
	}
}

// P9.1 and P9.2: quiet ticks are as many ticks in each of which nothing is heard, from each node, and behind each one it may be.
func TestQuietAll(t *testing.T) {
	for n := 3; n <= 8; n++ {
		for _, x := range nodes(n) {
			y := x
			for ticks := range 1001 {
				// Each number of ticks would take too long, of so many nodes.
				if ticks < 2 || ticks > 998 || ticks == 97 {
					checkQuiet(t, n, x, ticks, y, api.OK)
				}
				if !mayBe(n, y) {
					t.Fatalf("of %d, %+v is %+v behind %d quiet ticks, which may not be", n, x, y, ticks)
				}
				y = becomes(n, y, two{})
			}
		}
	}
}

// P9.1: quiet ticks one by one, of a node that is in each mode in turn.
func TestQuietEachTick(t *testing.T) {
	for n := 3; n <= 8; n++ {
		for _, x := range []api.Node{listening(1, 0), cold(2, 3), active(0, 0, 2)} {
			y := x
			for ticks := range 1001 {
				checkQuiet(t, n, x, ticks, y, api.OK)
				y = becomes(n, y, two{})
			}
		}
	}
}

// anyNode is a node that holds anything, often such as may be; the seed is the caller's, so that a failure comes again.
func anyNode(r *rand.Rand) api.Node {
	x := api.Node{Id: r.Intn(8), Mode: r.Intn(4), Count: r.Intn(70)}
	if x.Mode == 3 {
		x.Pos = r.Intn(8)
	}
	ends := []int{math.MinInt, -1 << 32, -mostCount, -1, 0, 1, 3, 4, 8, 40, mostCount, mostCount + 1, 1 << 32, math.MaxInt}
	switch r.Intn(8) {
	case 0:
		x.Id = ends[r.Intn(len(ends))]
	case 1:
		x.Mode = ends[r.Intn(len(ends))]
	case 2:
		x.Count = ends[r.Intn(len(ends))]
	case 3:
		x.Pos = ends[r.Intn(len(ends))]
	}
	return x
}

// P9.1 and P9.2: whatever a node holds, what becomes of it in a row of ticks is by the chapter's words, and may be; or it is ErrArg.
func TestAny(t *testing.T) {
	r := rand.New(rand.NewSource(9))
	went := 0
	for range 100000 {
		n, x := r.Intn(8)+2, anyNode(r)
		if !mayBe(n, x) || x.Mode == 0 {
			wrong(t, n, x)
			continue
		}
		went++
		said := frames(n)
		for range 20 {
			var h two
			// Mostly nothing is heard, or counters would never go far.
			if r.Intn(4) == 0 {
				h = two{said[r.Intn(len(said))], said[r.Intn(len(said))]}
			}
			want := becomes(n, x, h)
			checkStep(t, n, x, h, want, api.OK)
			if !mayBe(n, want) {
				t.Fatalf("of %d, %+v, that hears %v, is %+v, which may not be", n, x, h, want)
			}
			x = want
		}
	}
	if went == 0 {
		t.Fatal("nobody went on at all")
	}
}

// P9.1: of frames that nobody tells nothing is promised but an end: neither call panics.
func TestAnyFrames(t *testing.T) {
	ids := []int{math.MinInt, -1, 0, 1, 7, 8, 1 << 32, math.MaxInt}
	for kind := -1; kind <= 4; kind++ {
		for _, a := range ids {
			for _, b := range ids {
				h := two{{Kind: kind, Id: a}, {Kind: 3 - kind, Id: b}}
				for _, x := range []api.Node{{}, listening(1, 5), cold(1, 5), active(1, 5, 3), active(9, -1, 9)} {
					Step(4, x, h)
				}
			}
		}
	}
}
