package hub

import (
	"math"
	"math/rand"
	"slices"
	"testing"

	"daybreak/api"
	"daybreak/vote"
)

// frames are what is taken in, port by port, or what is relayed, tick by tick.
type frames = []api.Frame

func csOf(id int) api.Frame { return api.Frame{Kind: 1, Id: id} }

func infoOf(id int) api.Frame { return api.Frame{Kind: 2, Id: id} }

// nothing is what a port takes in, if it takes in nothing.
var nothing = api.Frame{Kind: 0, Id: 0}

// wrongNumbers are such as no number of nodes is.
var wrongNumbers = []int{math.MinInt, math.MinInt + 1, -1 << 32, -8, -3, -1, 0, 1, 2, 9, 10, 255, 259, 1<<32 + 3, 1<<32 + 8, math.MaxInt - 1, math.MaxInt}

// anyInts are small numbers, and some about the ends of bytes, of 32 bits and of int.
var anyInts = []int{math.MinInt, -1 << 32, -256, -2, -1, 0, 1, 2, 3, 4, 5, 6, 7, 8, 9, 17, 18, 255, 256, 257, 1 << 32, 1<<32 + 1, math.MaxInt}

func oneOf(r *rand.Rand, l []int) int { return l[r.Intn(len(l))] }

// numbers are all the numbers of h, to be changed one by one.
func numbers(h *api.Hub) []*int {
	l := []*int{&h.Port, &h.Age, &h.Hold, &h.Pos}
	for p := range h.Ages {
		l = append(l, &h.Ages[p])
	}
	return l
}

// anyHub is a hub that holds anything.
func anyHub(r *rand.Rand) api.Hub {
	h := api.Hub{}
	for _, x := range numbers(&h) {
		*x = oneOf(r, anyInts)
	}
	return h
}

// rightHub is a hub that may be, of n; each number at an end more often than elsewhere.
func rightHub(r *rand.Rand, n int) api.Hub {
	h := api.Hub{}
	for i, most := range append([]int{n - 1, 2*n + 1, 2 * n, n - 1}, slices.Repeat([]int{n}, n)...) {
		at := numbers(&h)[i]
		if *at = r.Intn(most + 1); r.Intn(3) == 0 {
			*at = most * r.Intn(2)
		}
	}
	if r.Intn(2) == 0 {
		h.Hold = 0
	}
	return h
}

// own are the frames that the port p may take in.
func own(p int) frames { return frames{nothing, csOf(p), infoOf(p)} }

// rightList is what n ports may take in.
func rightList(r *rand.Rand, n int) frames {
	l := make(frames, n)
	for p := range l {
		l[p] = own(p)[r.Intn(3)]
	}
	return l
}

// only is what n ports take in, if one of them takes in f, the others nothing.
func only(n int, f api.Frame) frames {
	l := make(frames, n)
	l[f.Id] = f
	return l
}

// listsOfThree are all that three ports may take in.
func listsOfThree() []frames {
	var all []frames
	for _, a := range own(0) {
		for _, b := range own(1) {
			for _, c := range own(2) {
				all = append(all, frames{a, b, c})
			}
		}
	}
	return all
}

// eachHubOfThree does f with all hubs that may be, of three nodes.
func eachHubOfThree(f func(h api.Hub)) {
	for x := range 4 * 4 * 4 * 3 * 8 * 7 * 3 {
		next := func(bound int) int {
			left := x % bound
			x /= bound
			return left
		}
		f(api.Hub{Ages: [8]int{next(4), next(4), next(4)}, Port: next(3), Age: next(8), Hold: next(7), Pos: next(3)})
	}
}

// mayBe is whether h may be, of a cluster of n, by the words of layer 11.
func mayBe(n int, h api.Hub) bool {
	if n < 3 || n > 8 {
		return false
	}
	within := func(x, most int) bool { return 0 <= x && x <= most }
	for p, x := range h.Ages {
		if p < n && !within(x, n) || p >= n && x != 0 {
			return false
		}
	}
	return within(h.Port, n-1) && within(h.Age, 2*n+1) && within(h.Hold, 2*n) && within(h.Pos, n-1)
}

// fits is whether l are such as n ports take in, by the words of layer 12.
func fits(n int, l frames) bool {
	for p, f := range l {
		if p >= n || !slices.Contains(own(p), f) {
			return false
		}
	}
	return len(l) == n
}

// votesOf is how many ports of h, which may be, vote for the slot v, by the words of layer 11.
func votesOf(n int, h api.Hub, v int) int {
	votes := 0
	for p := range n {
		if h.Ages[p] < n && (p+h.Ages[p])%n == v || p == h.Port && h.Age < 2*n && (p+h.Age)%n == v {
			votes++
		}
	}
	return votes
}

// stepOf is h, which may be, behind a tick in which it took in l, which fits, and what it relays, by the words of layers 11 to 13.
func stepOf(n int, h api.Hub, l frames) (api.Hub, api.Frame) {
	for p := range n {
		if h.Ages[p] = min(h.Ages[p]+1, n); l[p].Kind == 2 {
			h.Ages[p] = 0
		}
	}
	h.Age, h.Hold, h.Pos = min(h.Age+1, 2*n+1), max(h.Hold-1, 0), (h.Pos+1)%n
	first, last := h.Pos, h.Pos
	if h.Hold == 0 {
		first, last = 0, n-1
	}
	most := 1
	for v := first; v <= last; v++ {
		if votes := votesOf(n, h, v); votes > most {
			most, h.Pos, h.Hold = votes, v, 2*n
		}
	}
	if h.Hold > 0 {
		if l[h.Pos].Kind == 2 {
			h.Hold = 2 * n
			return h, infoOf(h.Pos)
		}
		return h, nothing
	}
	for p := range n {
		if h.Age == 2*n+1 && l[p].Kind == 1 {
			h.Port, h.Age = p, 0
			for q := range n {
				h.Ages[q] = n
			}
			return h, csOf(p)
		}
	}
	return h, nothing
}

func checkStep(t *testing.T, n int, h api.Hub, l frames, want api.Hub, wf api.Frame, we api.Errno) {
	t.Helper()
	if got, f, e := Step(n, h, l); got != want || f != wf || e != we {
		t.Fatalf("Step(%d, %v, %v) = %v, %v, %d, want %v, %v, %d", n, h, l, got, f, e, want, wf, we)
	}
}

func checkRun(t *testing.T, n int, h api.Hub, ticks []frames, want api.Hub, wl frames, we api.Errno) {
	t.Helper()
	if got, l, e := Run(n, h, ticks); got != want || !slices.Equal(l, wl) || e != we {
		t.Fatalf("Run(%d, %v, %v) = %v, %v, %d, want %v, %v, %d", n, h, ticks, got, l, e, want, wl, we)
	}
}

// checkAny holds both calls on h and ticks, which may hold anything, against the words of the chapter.
func checkAny(t *testing.T, n int, h api.Hub, ticks []frames) {
	t.Helper()
	if !mayBe(n, h) {
		for _, l := range ticks {
			checkStep(t, n, h, l, api.Hub{}, nothing, api.ErrArg)
		}
		checkRun(t, n, h, ticks, api.Hub{}, nil, api.ErrArg)
		return
	}
	was, relayed := h, frames{}
	for _, l := range ticks {
		if !fits(n, l) {
			checkStep(t, n, h, l, api.Hub{}, nothing, api.ErrRange)
			checkRun(t, n, was, ticks, api.Hub{}, nil, api.ErrRange)
			return
		}
		want, f := stepOf(n, h, l)
		checkStep(t, n, h, l, want, f, api.OK)
		h, relayed = want, append(relayed, f)
	}
	checkRun(t, n, was, ticks, h, relayed, api.OK)
}

// P13.1: hubs behind a tick, and what they relay, by such as are written out.
func TestStepKnown(t *testing.T) {
	far, quiet := [8]int{4, 4, 4, 4}, frames{nothing, nothing, nothing, nothing}
	cases := []struct {
		h    api.Hub
		l    frames
		want api.Hub
		f    api.Frame
	}{
		// A fresh hub is a tick later; it relays the Cs of the least port; an Info alone is noted, and holds no slot.
		{api.Hub{Ages: far, Age: 9}, quiet, api.Hub{Ages: far, Age: 9, Pos: 1}, nothing},
		{api.Hub{Ages: far, Age: 9}, frames{nothing, csOf(1), csOf(2), nothing}, api.Hub{Ages: far, Port: 1, Pos: 1}, csOf(1)},
		{api.Hub{Ages: far, Age: 9}, frames{infoOf(0), nothing, nothing, nothing}, api.Hub{Ages: [8]int{0, 4, 4, 4}, Age: 9, Pos: 1}, nothing},
		// What is noted in the tick in which a Cs is relayed votes no more.
		{api.Hub{Ages: far, Age: 9}, frames{infoOf(0), nothing, csOf(2), nothing}, api.Hub{Ages: far, Port: 2, Pos: 1}, csOf(2)},
		// A Cs is relayed Block and 1 ticks behind the last one, not sooner.
		{api.Hub{Ages: far, Age: 8, Pos: 3}, only(4, csOf(3)), api.Hub{Ages: far, Port: 3}, csOf(3)},
		{api.Hub{Ages: far, Age: 7, Pos: 3}, only(4, csOf(3)), api.Hub{Ages: far, Age: 8}, nothing},
		// It counts the votes of the tick itself: the Cs of a tick ago, and an Info of now; and relays the Info.
		{api.Hub{Ages: far, Port: 1, Age: 0}, only(4, infoOf(2)), api.Hub{Ages: [8]int{4, 4, 0, 4}, Port: 1, Age: 1, Hold: 8, Pos: 2}, infoOf(2)},
		{api.Hub{Ages: far, Port: 1, Age: 0}, only(4, infoOf(3)), api.Hub{Ages: [8]int{4, 4, 4, 0}, Port: 1, Age: 1, Pos: 1}, nothing},
		// Two Infos of one slot, one of a tick ago.
		{api.Hub{Ages: [8]int{4, 4, 0, 4}, Age: 9}, only(4, infoOf(3)), api.Hub{Ages: [8]int{4, 4, 1, 0}, Age: 9, Hold: 8, Pos: 3}, infoOf(3)},
		// Votes are as old as they are behind the tick: these end with it.
		{api.Hub{Ages: [8]int{3, 4, 3, 4}, Age: 9}, quiet, api.Hub{Ages: far, Age: 9, Pos: 1}, nothing},
		{api.Hub{Ages: [8]int{3, 2, 4, 4}, Age: 9}, quiet, api.Hub{Ages: [8]int{4, 3, 4, 4}, Age: 9, Pos: 1}, nothing},
		{api.Hub{Ages: [8]int{2, 1, 4, 4}, Age: 9}, quiet, api.Hub{Ages: [8]int{3, 2, 4, 4}, Age: 9, Hold: 8, Pos: 3}, nothing},
		// It holds a slot: its owner's Info, of now; else it holds on for less.
		{api.Hub{Ages: far, Age: 9, Hold: 5, Pos: 2}, only(4, infoOf(3)), api.Hub{Ages: [8]int{4, 4, 4, 0}, Age: 9, Hold: 8, Pos: 3}, infoOf(3)},
		{api.Hub{Ages: far, Age: 9, Hold: 5, Pos: 3}, frames{infoOf(0), csOf(1), csOf(2), csOf(3)}, api.Hub{Ages: [8]int{0, 4, 4, 4}, Age: 9, Hold: 8, Pos: 0}, infoOf(0)},
		{api.Hub{Ages: far, Age: 9, Hold: 5, Pos: 2}, frames{csOf(0), csOf(1), infoOf(2), csOf(3)}, api.Hub{Ages: [8]int{4, 4, 0, 4}, Age: 9, Hold: 4, Pos: 3}, nothing},
		{api.Hub{Ages: far, Age: 9, Hold: 2, Pos: 2}, quiet, api.Hub{Ages: far, Age: 9, Hold: 1, Pos: 3}, nothing},
		// Its hold ends with the tick: it relays a Cs in it, or holds what two vote for.
		{api.Hub{Ages: far, Age: 9, Hold: 1, Pos: 2}, only(4, csOf(3)), api.Hub{Ages: far, Port: 3, Pos: 3}, csOf(3)},
		{api.Hub{Ages: far, Age: 9, Hold: 1, Pos: 2}, only(4, infoOf(3)), api.Hub{Ages: [8]int{4, 4, 4, 0}, Age: 9, Pos: 3}, nothing},
		{api.Hub{Ages: [8]int{0, 4, 4, 4}, Age: 9, Hold: 1, Pos: 2}, only(4, infoOf(1)), api.Hub{Ages: [8]int{1, 0, 4, 4}, Age: 9, Hold: 8, Pos: 1}, infoOf(1)},
	}
	for _, c := range cases {
		checkStep(t, 4, c.h, c.l, c.want, c.f, api.OK)
	}
}

// P13.1: ticks in a row, as they are written out: a Cs, its answer, rounds that are spoken, one that isn't, and a Cs again.
func TestRunKnown(t *testing.T) {
	quiet := frames{nothing, nothing, nothing}
	fresh := api.Hub{Ages: [8]int{3, 3, 3}, Age: 7}
	ticks := []frames{
		{nothing, csOf(1), csOf(2)}, {csOf(0), nothing, infoOf(2)}, {infoOf(0), csOf(1), csOf(2)}, only(3, infoOf(1)), only(3, infoOf(2)),
		// Two vote for one tick more; Block ticks behind it the hold has ended, and a Cs is relayed.
		quiet, quiet, quiet, quiet, only(3, csOf(2)), only(3, csOf(2)), only(3, csOf(2)), only(3, csOf(2)),
	}
	relayed := frames{csOf(1), infoOf(2), infoOf(0), infoOf(1), infoOf(2), nothing, nothing, nothing, nothing, nothing, nothing, csOf(2), nothing}
	checkRun(t, 3, fresh, ticks, api.Hub{Ages: [8]int{3, 3, 3}, Port: 2, Age: 1, Pos: 1}, relayed, api.OK)
	checkRun(t, 3, fresh, ticks[:3], api.Hub{Ages: [8]int{0, 3, 1}, Port: 1, Age: 2, Hold: 6, Pos: 0}, relayed[:3], api.OK)
	checkRun(t, 3, fresh, ticks[:6], api.Hub{Ages: [8]int{3, 2, 1}, Port: 1, Age: 5, Hold: 6, Pos: 0}, relayed[:6], api.OK)
	checkRun(t, 3, fresh, ticks[:7], api.Hub{Ages: [8]int{3, 3, 2}, Port: 1, Age: 6, Hold: 5, Pos: 1}, relayed[:7], api.OK)
	checkRun(t, 3, fresh, ticks[:11], api.Hub{Ages: [8]int{3, 3, 3}, Port: 1, Age: 7, Hold: 1, Pos: 2}, relayed[:11], api.OK)
}

// P13.1: no ticks leave a hub as it is, if it may be.
func TestRunOfNoTicks(t *testing.T) {
	r := rand.New(rand.NewSource(130))
	for range 200 {
		n := 3 + r.Intn(6)
		h := rightHub(r, n)
		checkRun(t, n, h, nil, h, nil, api.OK)
		checkRun(t, n, h, []frames{}, h, nil, api.OK)
	}
	checkRun(t, 3, api.Hub{Pos: 3}, nil, api.Hub{}, nil, api.ErrArg)
	checkRun(t, 2, api.Hub{}, nil, api.Hub{}, nil, api.ErrArg)
}

// P13.1: the errors: ErrArg ahead of ErrRange, the first one of the ticks, and nothing is beside either.
func TestErrors(t *testing.T) {
	good := api.Hub{Ages: [8]int{2, 1, 0, 4}, Port: 1, Age: 9, Hold: 3, Pos: 2}
	fit := frames{csOf(0), nothing, infoOf(2), nothing}
	wrong := []frames{fit[:3], append(slices.Clone(fit), nothing), nil, {}, {csOf(0), nothing, infoOf(1), nothing}, {csOf(0), {Kind: 3}, infoOf(2), nothing}, {nothing, {Id: 1}, nothing, nothing}}
	for _, l := range wrong {
		checkStep(t, 4, good, l, api.Hub{}, nothing, api.ErrRange)
		for _, ticks := range [][]frames{{l}, {l, fit}, {fit, fit, l}, {fit, l, fit}, {l, l}} {
			checkRun(t, 4, good, ticks, api.Hub{}, nil, api.ErrRange)
		}
	}
	for i := range numbers(&good) {
		for _, x := range []int{math.MinInt, -1, 10, math.MaxInt} {
			h := good
			*numbers(&h)[i] = x
			checkAny(t, 4, h, []frames{fit, fit[:3], nil})
			checkAny(t, 4, h, []frames{nil, fit})
			checkAny(t, 4, h, nil)
		}
	}
	for _, n := range wrongNumbers {
		for _, h := range []api.Hub{{}, good} {
			checkAny(t, n, h, []frames{fit, nil, make(frames, 9)})
			checkAny(t, n, h, nil)
		}
	}
}

// P13.1: all hubs of three nodes, with all that they may take in in a tick.
func TestAllOfThree(t *testing.T) {
	lists := listsOfThree()
	eachHubOfThree(func(h api.Hub) {
		for _, l := range lists {
			want, f := stepOf(3, h, l)
			checkStep(t, 3, h, l, want, f, api.OK)
		}
	})
}

// P13.1: hubs that may be, of any number of nodes, hubs that hold anything, and ticks that hold anything.
func TestAny(t *testing.T) {
	r := rand.New(rand.NewSource(131))
	for range 6000 {
		n := 3 + r.Intn(6)
		h, ticks := rightHub(r, n), make([]frames, r.Intn(40))
		for i := range ticks {
			if ticks[i] = make(frames, n); r.Intn(2) == 0 {
				ticks[i] = rightList(r, n)
			}
		}
		checkAny(t, n, h, ticks)
		checkAny(t, 2+r.Intn(8), h, ticks)
		checkAny(t, n, anyHub(r), ticks)
		if len(ticks) > 0 {
			ticks[r.Intn(len(ticks))] = rightList(r, 2+r.Intn(8))
			checkAny(t, n, h, ticks)
			l := ticks[r.Intn(len(ticks))]
			l[r.Intn(len(l))] = api.Frame{Kind: oneOf(r, anyInts), Id: oneOf(r, anyInts)}
			checkAny(t, n, h, ticks)
		}
		*numbers(&h)[r.Intn(12)] = oneOf(r, anyInts)
		checkAny(t, n, h, ticks)
	}
}

// record is all that happened to a hub of n since it was fresh, in ticks that are counted from 0 on.
type record struct {
	n, tick    int
	infos      [8]int // of each port: the tick of its last Info that still votes
	port, cs   int    // the last Cs that was relayed, and its tick
	slot, held int    // what was held last: which slot the tick 0 would have had, and the last tick that was spoken, or voted for
}

// newRecord is the record of a fresh hub: all that it knows of was long ago.
func newRecord(n int) *record {
	c := &record{n: n, tick: -1, cs: -999, slot: 1, held: -999}
	for p := range c.infos {
		c.infos[p] = -999
	}
	return c
}

// votes are how many ports say that v is the slot now.
func (c *record) votes(v int) int {
	votes := 0
	for p := range c.n {
		byInfo := c.tick-c.infos[p] < c.n && (c.tick-c.infos[p]+p-v)%c.n == 0
		byCs := p == c.port && c.tick-c.cs < 2*c.n && (c.tick-c.cs+p-v)%c.n == 0
		if byInfo || byCs {
			votes++
		}
	}
	return votes
}

// settle is whether a slot is held in this tick, and which one.
func (c *record) settle() (int, bool) {
	now := (c.slot + c.tick) % c.n
	if c.tick-c.held < 2*c.n {
		if c.votes(now) >= 2 {
			c.held = c.tick
		}
		return now, true
	}
	best := 0
	for v := range c.n {
		if c.votes(v) > c.votes(best) {
			best = v
		}
	}
	if c.votes(best) < 2 {
		return 0, false
	}
	c.held, c.slot = c.tick, ((best-c.tick)%c.n+c.n)%c.n
	return best, true
}

// step is what is relayed in the next tick, of l.
func (c *record) step(l frames) api.Frame {
	c.tick++
	for p, f := range l {
		if f.Kind == 2 {
			c.infos[p] = c.tick
		}
	}
	if slot, held := c.settle(); held {
		if l[slot].Kind != 2 {
			return nothing
		}
		c.held = c.tick
		return l[slot]
	}
	least := slices.IndexFunc(l, func(f api.Frame) bool { return f.Kind == 1 })
	if least < 0 || c.tick-c.cs <= 2*c.n {
		return nothing
	}
	old := *c
	*c = *newRecord(c.n)
	c.tick, c.port, c.cs, c.slot = old.tick, least, old.tick, old.slot
	return l[least]
}

// hub is the hub that has c as its record.
func (c *record) hub() api.Hub {
	h := api.Hub{Port: c.port, Age: min(c.tick-c.cs, 2*c.n+1), Hold: max(0, 2*c.n-c.tick+c.held), Pos: (c.slot + c.tick) % c.n}
	for p := range c.n {
		h.Ages[p] = min(c.tick-c.infos[p], c.n)
	}
	return h
}

// spoken is what n ports take in in a tick, in one of four ways: anything; the Info of the slot pos; a few Css; nothing, or nearly.
func spoken(r *rand.Rand, n, way, pos int) frames {
	l := make(frames, n)
	switch way {
	case 0:
		return rightList(r, n)
	case 1:
		l[pos] = infoOf(pos)
	case 2:
		for range 2 {
			p := r.Intn(n)
			l[p] = csOf(p)
		}
	default:
		if p := r.Intn(n); r.Intn(5) == 0 {
			l[p] = own(p)[r.Intn(3)]
		}
	}
	return l
}

// P13.1: fresh hubs go on as all that happened to them since says, for long.
func TestByRecord(t *testing.T) {
	r := rand.New(rand.NewSource(132))
	count := map[int]int{}
	for round := range 600 {
		n := 3 + round%6
		fresh, _ := vote.Fresh(n)
		c := newRecord(n)
		var ticks []frames
		var relayed frames
		for tick := range 120 {
			ticks = append(ticks, spoken(r, n, (round+tick/15)%4, (tick+round/15)%n))
			f := c.step(ticks[tick])
			relayed = append(relayed, f)
			count[f.Kind]++
		}
		checkRun(t, n, fresh, ticks, c.hub(), relayed, api.OK)
	}
	if count[api.Cs] < 1000 || count[api.Info] < 1000 || count[api.None] < 1000 {
		t.Fatalf("relayed, by kinds: %v", count)
	}
}

// P13.1: hubs and ticks that are handed in stay as they were, their spare room too; no answer shares memory with them, or with another one.
func TestHandedInStays(t *testing.T) {
	r := rand.New(rand.NewSource(133))
	for range 500 {
		n := 3 + r.Intn(6)
		h := rightHub(r, n)
		long := make([]frames, 12)
		var was []frames
		for i := range long {
			long[i] = append(rightList(r, n), csOf(99))[:n]
			was = append(was, slices.Clone(long[i][:n+1]))
		}
		wasHub := h
		first, l, _ := Run(n, h, long[:10])
		again, m, _ := Run(n, h, long[:10])
		kept := slices.Clone(m)
		for i := range l {
			l[i] = csOf(77)
		}
		first.Ages[0] = 77
		if h != wasHub || first == again || !slices.Equal(m, kept) {
			t.Fatalf("%v was %v, %v was %v", h, wasHub, m, kept)
		}
		for i := range long {
			if !slices.Equal(long[i][:n+1], was[i]) {
				t.Fatalf("%v was %v", long[i][:n+1], was[i])
			}
		}
	}
}

// apart is how many ticks are the fewest from a Cs that is relayed to the next one; many, if no two are.
func apart(l frames) int {
	fewest, last := math.MaxInt, -1
	for tick, f := range l {
		if f.Kind != api.Cs {
			continue
		}
		if last >= 0 {
			fewest = min(fewest, tick-last)
		}
		last = tick
	}
	return fewest
}

// P13.2: a Cs in each tick: of all hubs of three nodes, and of some of more, two that are relayed are Block and 1 ticks apart.
func TestCssInEachTick(t *testing.T) {
	check := func(n int, h api.Hub, p int) {
		t.Helper()
		_, l, e := Run(n, h, slices.Repeat([]frames{only(n, csOf(p))}, 8*n))
		if e != api.OK || apart(l) != 2*n+1 {
			t.Fatalf("%v of %d relays %v, %d", h, n, l, e)
		}
	}
	eachHubOfThree(func(h api.Hub) { check(3, h, h.Pos) })
	r := rand.New(rand.NewSource(134))
	for range 3000 {
		n := 3 + r.Intn(6)
		check(n, rightHub(r, n), r.Intn(n))
	}
}

// P13.2: whatever is taken in, more ticks than Block pass from a Cs that is relayed to the next one; of any hub that may be.
func TestCssApart(t *testing.T) {
	r := rand.New(rand.NewSource(135))
	exact := 0
	for round := range 2000 {
		n := 3 + r.Intn(6)
		var ticks []frames
		for tick := range 90 {
			ticks = append(ticks, spoken(r, n, []int{2, 3, 2, 0, 1}[(round+tick/9)%5], tick%n))
		}
		h := rightHub(r, n)
		_, l, e := Run(n, h, ticks)
		if e != api.OK || apart(l) <= 2*n {
			t.Fatalf("%v of %d relays %v of %v, %d", h, n, l, ticks, e)
		}
		if apart(l) == 2*n+1 {
			exact++
		}
	}
	if exact < 100 {
		t.Fatal(exact)
	}
}

// P13.2: as long as its owners speak, a slot that is held stays held, and moves by one each tick, whatever else is said; of all hubs of three nodes that hold one beyond the tick.
func TestHeldOfThree(t *testing.T) {
	eachHubOfThree(func(h api.Hub) {
		if h.Hold < 2 {
			return
		}
		slot := (h.Pos + 1) % 3
		for _, l := range listsOfThree() {
			got, f, e := Step(3, h, l)
			if e != api.OK || got.Pos != slot || got.Hold < h.Hold-1 {
				t.Fatalf("Step(3, %v, %v) = %v, %d", h, l, got, e)
			}
			if spoke := l[slot] == infoOf(slot); spoke && (got.Hold != 6 || f != l[slot]) || !spoke && f != nothing {
				t.Fatalf("Step(3, %v, %v) = %v, %v", h, l, got, f)
			}
		}
	})
}

// P13.2: a slot that is held stays held for long, of any number of nodes, if its owners speak in each tick, or in one of Block less 1; others say anything.
func TestHeldGoesOn(t *testing.T) {
	r := rand.New(rand.NewSource(136))
	for round := range 1200 {
		n := 3 + r.Intn(6)
		h := rightHub(r, n)
		h.Hold = 2 * n
		every := 1
		if round%2 == 0 {
			every = 2*n - 1
		}
		for tick := 1; tick <= 12*n; tick++ {
			slot := (h.Pos + 1) % n
			l := spoken(r, n, round%4, r.Intn(n))
			l[slot] = csOf(slot)
			if tick%every == 0 {
				l[slot] = infoOf(slot)
			}
			next, f, e := Step(n, h, l)
			if e != api.OK || next.Pos != slot || next.Hold == 0 || (f == infoOf(slot)) != (tick%every == 0) || f != nothing && next.Hold != 2*n {
				t.Fatalf("Step(%d, %v, %v) = %v, %v, %d", n, h, l, next, f, e)
			}
			h = next
		}
	}
}

// P13.2: where nobody speaks any more, a slot is held for Block ticks less 1 behind the last vote, and then none.
func TestHeldEnds(t *testing.T) {
	for n := 3; n <= 8; n++ {
		h, _ := vote.Fresh(n)
		h.Hold = 2 * n
		for left := 2*n - 1; left >= -3; left-- {
			next, f, e := Step(n, h, make(frames, n))
			if e != api.OK || next.Hold != max(left, 0) || next.Pos != (h.Pos+1)%n || f != nothing {
				t.Fatalf("Step(%d, %v) = %v, %v, %d", n, h, next, f, e)
			}
			h = next
		}
	}
}
