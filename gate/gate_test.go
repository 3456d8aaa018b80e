package gate

import (
	"math"
	"math/rand"
	"slices"
	"testing"

	"daybreak/api"
	"daybreak/vote"
)

// frames are what is taken in, port by port.
type frames = []api.Frame

func csOf(id int) api.Frame { return api.Frame{Kind: 1, Id: id} }

func infoOf(id int) api.Frame { return api.Frame{Kind: 2, Id: id} }

// nothing is what a port takes in, if it takes in nothing.
var nothing = api.Frame{Kind: 0, Id: 0}

// wrongNumbers are such as no number of nodes is.
var wrongNumbers = []int{math.MinInt, math.MinInt + 1, -1 << 32, -8, -3, -1, 0, 1, 2, 9, 10, 255, 259, 1<<32 + 3, 1<<32 + 8, math.MaxInt - 1, math.MaxInt}

// anyInts are small numbers, and some about the ends of bytes, of 32 bits and of int.
var anyInts = []int{math.MinInt, -1 << 32, -256, -2, -1, 0, 1, 2, 3, 4, 5, 6, 7, 8, 9, 17, 18, 255, 256, 257, 1 << 32, 1<<32 + 1, math.MaxInt}

func oneOf(r *rand.Rand, l []int) int { return l[r.Intn(len(l))] }

// anyFrame is a frame that holds anything.
func anyFrame(r *rand.Rand) api.Frame {
	return api.Frame{Kind: oneOf(r, anyInts), Id: oneOf(r, anyInts)}
}

// anyHub is a hub that holds anything.
func anyHub(r *rand.Rand) api.Hub {
	h := api.Hub{Port: oneOf(r, anyInts), Age: oneOf(r, anyInts), Hold: oneOf(r, anyInts), Pos: oneOf(r, anyInts)}
	for p := range h.Ages {
		h.Ages[p] = oneOf(r, anyInts)
	}
	return h
}

// rightHub is a hub that may be, of n; each number at an end more often than elsewhere.
func rightHub(r *rand.Rand, n int) api.Hub {
	upTo := func(most int) int {
		if r.Intn(3) == 0 {
			return most * r.Intn(2)
		}
		return r.Intn(most + 1)
	}
	h := api.Hub{Port: upTo(n - 1), Age: upTo(2*n + 1), Hold: upTo(2 * n), Pos: upTo(n - 1)}
	if r.Intn(2) == 0 {
		h.Hold = 0
	}
	for p := range n {
		h.Ages[p] = upTo(n)
	}
	return h
}

// numbers are all the numbers of h, to be changed one by one.
func numbers(h *api.Hub) []*int {
	l := []*int{&h.Port, &h.Age, &h.Hold, &h.Pos}
	for p := range h.Ages {
		l = append(l, &h.Ages[p])
	}
	return l
}

// rightList is what n ports may take in.
func rightList(r *rand.Rand, n int) frames {
	l := make(frames, n)
	for p := range l {
		l[p] = frames{nothing, csOf(p), infoOf(p)}[r.Intn(3)]
	}
	return l
}

// allLists are all that n ports may take in.
func allLists(n int) []frames {
	all := []frames{{}}
	for p := range n {
		var longer []frames
		for _, l := range all {
			for _, f := range (frames{nothing, csOf(p), infoOf(p)}) {
				longer = append(longer, append(slices.Clone(l), f))
			}
		}
		all = longer
	}
	return all
}

// each does f with the numbers of l at all values from 0 to most, together.
func each(l []*int, most []int, f func()) {
	if len(l) == 0 {
		f()
		return
	}
	for x := 0; x <= most[0]; x++ {
		*l[0] = x
		each(l[1:], most[1:], f)
	}
}

// eachHubOfThree does f with all hubs that may be, of three nodes.
func eachHubOfThree(f func(h api.Hub)) {
	h := api.Hub{}
	l := []*int{&h.Ages[0], &h.Ages[1], &h.Ages[2], &h.Port, &h.Age, &h.Hold, &h.Pos}
	each(l, []int{3, 3, 3, 2, 7, 6, 2}, func() { f(h) })
}

// fitsOf is the chapter's definition, word by word.
func fitsOf(n int, l frames) bool {
	if n < 3 || n > 8 || len(l) != n {
		return false
	}
	for p := 0; p < n; p++ {
		own := (l[p].Kind == 1 || l[p].Kind == 2) && l[p].Id == p
		if !own && !(l[p].Kind == 0 && l[p].Id == 0) {
			return false
		}
	}
	return true
}

// noteOf is h, which may be, behind that it noted l, by the words of the chapter.
func noteOf(n int, h api.Hub, l frames) api.Hub {
	for p := 0; p < n; p++ {
		if l[p].Kind == 2 {
			h.Ages[p] = 0
		}
	}
	return h
}

// settleOf is h, which may be, behind that it settled, by the words of the chapter.
func settleOf(n int, h api.Hub) api.Hub {
	if h.Hold > 0 {
		if vote.Votes(n, h, h.Pos) >= 2 {
			h.Hold = 2 * n
		}
	} else {
		if v, votes := vote.Best(n, h); votes >= 2 {
			h.Pos, h.Hold = v, 2*n
		}
	}
	return h
}

// relayOf is h, which may be, behind that it relayed one of l, and what it relayed, by the words of the chapter.
func relayOf(n int, h api.Hub, l frames) (api.Hub, api.Frame) {
	if h.Hold > 0 {
		if l[h.Pos].Kind == 2 {
			h.Hold = 2 * n
			return h, infoOf(h.Pos)
		}
		return h, nothing
	}
	if h.Age <= 2*n {
		return h, nothing
	}
	for p := 0; p < n; p++ {
		if l[p].Kind == 1 {
			h.Port, h.Age, h.Ages = p, 0, [8]int{}
			for q := 0; q < n; q++ {
				h.Ages[q] = n
			}
			return h, csOf(p)
		}
	}
	return h, nothing
}

// checkAll holds all calls on h and l, which may hold anything, against the words of the chapter.
func checkAll(t *testing.T, n int, h api.Hub, l frames) {
	t.Helper()
	may, fit := vote.Right(n, h), fitsOf(n, l)
	if got := Fits(n, l); got != fit {
		t.Fatalf("Fits(%d, %v) = %v", n, l, got)
	}
	noted, settled, relayed, f := api.Hub{}, api.Hub{}, api.Hub{}, nothing
	listE, settleE := api.OK, api.OK
	switch {
	case !may:
		listE, settleE = api.ErrArg, api.ErrArg
	case !fit:
		listE = api.ErrRange
	default:
		noted = noteOf(n, h, l)
		relayed, f = relayOf(n, h, l)
	}
	if may {
		settled = settleOf(n, h)
	}
	checkNote(t, n, h, l, noted, listE)
	checkSettle(t, n, h, settled, settleE)
	checkRelay(t, n, h, l, relayed, f, listE)
}

func checkNote(t *testing.T, n int, h api.Hub, l frames, want api.Hub, we api.Errno) {
	t.Helper()
	if got, e := Note(n, h, l); got != want || e != we {
		t.Fatalf("Note(%d, %v, %v) = %v, %d, want %v, %d", n, h, l, got, e, want, we)
	}
}

func checkSettle(t *testing.T, n int, h, want api.Hub, we api.Errno) {
	t.Helper()
	if got, e := Settle(n, h); got != want || e != we {
		t.Fatalf("Settle(%d, %v) = %v, %d, want %v, %d", n, h, got, e, want, we)
	}
}

func checkRelay(t *testing.T, n int, h api.Hub, l frames, want api.Hub, wf api.Frame, we api.Errno) {
	t.Helper()
	if got, f, e := Relay(n, h, l); got != want || f != wf || e != we {
		t.Fatalf("Relay(%d, %v, %v) = %v, %v, %d, want %v, %v, %d", n, h, l, got, f, e, want, wf, we)
	}
}

// P12.1: which frames fit, by such as are written out.
func TestFitsKnown(t *testing.T) {
	cases := []struct {
		n    int
		l    frames
		want bool
	}{
		{3, frames{nothing, nothing, nothing}, true},
		{3, frames{csOf(0), csOf(1), csOf(2)}, true},
		{3, frames{infoOf(0), infoOf(1), infoOf(2)}, true},
		{4, frames{infoOf(0), nothing, csOf(2), csOf(3)}, true},
		// One less, or one more, than there are ports.
		{3, frames{infoOf(0), nothing, csOf(2), csOf(3)}, false},
		{4, frames{infoOf(0), nothing, csOf(2)}, false},
		{3, nil, false},
		{0, nil, false},
		{0, frames{}, false},
		{2, frames{nothing, nothing}, false},
		// A frame of another port's number, or of none's.
		{3, frames{csOf(1), nothing, nothing}, false},
		{3, frames{infoOf(1), nothing, nothing}, false},
		{3, frames{nothing, csOf(0), nothing}, false},
		{3, frames{nothing, nothing, infoOf(3)}, false},
		{3, frames{infoOf(-1), nothing, nothing}, false},
		{3, frames{csOf(1 << 32), nothing, nothing}, false},
		// None with a number, also with the port's; noise; and kinds that there aren't.
		{3, frames{nothing, {Kind: 0, Id: 1}, nothing}, false},
		{3, frames{nothing, nothing, {Kind: 0, Id: 1}}, false},
		{3, frames{{Kind: 3, Id: 0}, nothing, nothing}, false},
		{3, frames{nothing, {Kind: 3, Id: 1}, nothing}, false},
		{3, frames{{Kind: -1, Id: 0}, nothing, nothing}, false},
		{3, frames{{Kind: 4, Id: 0}, nothing, nothing}, false},
		{3, frames{{Kind: 1<<32 + 1, Id: 0}, nothing, nothing}, false},
	}
	for _, c := range cases {
		if got := Fits(c.n, c.l); got != c.want {
			t.Errorf("Fits(%d, %v) = %v", c.n, c.l, got)
		}
	}
}

// P12.1: each frame at each port, of each number of nodes, among such as fit.
func TestFitsEachFrame(t *testing.T) {
	r := rand.New(rand.NewSource(12))
	for n := 3; n <= 8; n++ {
		for p := range n {
			for _, kind := range anyInts {
				for _, id := range anyInts {
					l := rightList(r, n)
					l[p] = api.Frame{Kind: kind, Id: id}
					if got, want := Fits(n, l), fitsOf(n, l); got != want {
						t.Errorf("Fits(%d, %v) = %v", n, l, got)
					}
				}
			}
		}
	}
}

// P12.1: lists of all lengths, of all numbers of nodes and of such as are none.
func TestFitsLengths(t *testing.T) {
	for k := range 20 {
		l := make(frames, k)
		for n := -1; n <= 20; n++ {
			if got, want := Fits(n, l), n == k && n >= 3 && n <= 8; got != want {
				t.Errorf("Fits(%d, %d of them) = %v", n, k, got)
			}
		}
		for _, n := range wrongNumbers {
			if Fits(n, l) {
				t.Errorf("Fits(%d, %d of them)", n, k)
			}
		}
	}
}

// P12.1: what a hub notes, by such as are written out: Infos alone, and nothing else of it is changed.
func TestNoteKnown(t *testing.T) {
	h := api.Hub{Ages: [8]int{4, 3, 2, 1}, Port: 2, Age: 6, Hold: 5, Pos: 3}
	noted := func(ages ...int) api.Hub {
		c := h
		copy(c.Ages[:], ages)
		return c
	}
	checkNote(t, 4, h, frames{nothing, nothing, nothing, nothing}, h, api.OK)
	checkNote(t, 4, h, frames{csOf(0), csOf(1), csOf(2), csOf(3)}, h, api.OK)
	checkNote(t, 4, h, frames{infoOf(0), nothing, csOf(2), nothing}, noted(0, 3, 2, 1), api.OK)
	checkNote(t, 4, h, frames{csOf(0), infoOf(1), nothing, infoOf(3)}, noted(4, 0, 2, 0), api.OK)
	checkNote(t, 4, h, frames{infoOf(0), infoOf(1), infoOf(2), infoOf(3)}, noted(0, 0, 0, 0), api.OK)
	far := api.Hub{Ages: [8]int{8, 8, 8, 8, 8, 8, 8, 8}, Age: 17}
	last := frames{nothing, nothing, nothing, nothing, nothing, nothing, nothing, infoOf(7)}
	checkNote(t, 8, far, last, api.Hub{Ages: [8]int{8, 8, 8, 8, 8, 8, 8, 0}, Age: 17}, api.OK)
}

// P12.1: how a hub settles, by such as are written out.
func TestSettleKnown(t *testing.T) {
	far := [8]int{4, 4, 4, 4}
	cases := []struct{ h, want api.Hub }{
		// It holds none: no votes, one, and two, by Infos, or by a Cs and an Info.
		{api.Hub{Ages: far, Age: 9, Pos: 2}, api.Hub{Ages: far, Age: 9, Pos: 2}},
		{api.Hub{Ages: [8]int{0, 4, 4, 4}, Age: 9, Pos: 2}, api.Hub{Ages: [8]int{0, 4, 4, 4}, Age: 9, Pos: 2}},
		{api.Hub{Ages: [8]int{0, 4, 4, 4}, Age: 0, Pos: 2}, api.Hub{Ages: [8]int{0, 4, 4, 4}, Age: 0, Pos: 2}},
		{api.Hub{Ages: [8]int{1, 0, 4, 4}, Age: 9, Pos: 3}, api.Hub{Ages: [8]int{1, 0, 4, 4}, Age: 9, Hold: 8, Pos: 1}},
		{api.Hub{Ages: [8]int{4, 0, 4, 4}, Age: 1}, api.Hub{Ages: [8]int{4, 0, 4, 4}, Age: 1, Hold: 8, Pos: 1}},
		{api.Hub{Ages: [8]int{4, 0, 4, 4}, Age: 5, Pos: 1}, api.Hub{Ages: [8]int{4, 0, 4, 4}, Age: 5, Hold: 8, Pos: 1}},
		// Two slots with two votes: the least; one with more: that.
		{api.Hub{Ages: [8]int{0, 3, 0, 3}, Age: 9, Pos: 2}, api.Hub{Ages: [8]int{0, 3, 0, 3}, Age: 9, Hold: 8, Pos: 0}},
		{api.Hub{Ages: [8]int{3, 0, 1, 0}, Port: 2, Age: 1, Pos: 1}, api.Hub{Ages: [8]int{3, 0, 1, 0}, Port: 2, Age: 1, Hold: 8, Pos: 3}},
		// It holds one: two votes for it keep it, one or none doesn't, whatever another slot has.
		{api.Hub{Ages: [8]int{1, 0, 4, 4}, Age: 9, Hold: 3, Pos: 1}, api.Hub{Ages: [8]int{1, 0, 4, 4}, Age: 9, Hold: 8, Pos: 1}},
		{api.Hub{Ages: [8]int{1, 0, 4, 4}, Age: 9, Hold: 1, Pos: 1}, api.Hub{Ages: [8]int{1, 0, 4, 4}, Age: 9, Hold: 8, Pos: 1}},
		{api.Hub{Ages: [8]int{1, 0, 4, 4}, Age: 9, Hold: 8, Pos: 1}, api.Hub{Ages: [8]int{1, 0, 4, 4}, Age: 9, Hold: 8, Pos: 1}},
		{api.Hub{Ages: [8]int{1, 0, 4, 4}, Age: 9, Hold: 3, Pos: 2}, api.Hub{Ages: [8]int{1, 0, 4, 4}, Age: 9, Hold: 3, Pos: 2}},
		{api.Hub{Ages: [8]int{1, 0, 4, 4}, Age: 9, Hold: 1, Pos: 0}, api.Hub{Ages: [8]int{1, 0, 4, 4}, Age: 9, Hold: 1, Pos: 0}},
		{api.Hub{Ages: [8]int{2, 1, 0, 0}, Age: 9, Hold: 5, Pos: 3}, api.Hub{Ages: [8]int{2, 1, 0, 0}, Age: 9, Hold: 5, Pos: 3}},
		{api.Hub{Ages: far, Age: 9, Hold: 1, Pos: 2}, api.Hub{Ages: far, Age: 9, Hold: 1, Pos: 2}},
	}
	for _, c := range cases {
		checkSettle(t, 4, c.h, c.want, api.OK)
	}
	three := [8]int{0, 2, 3}
	checkSettle(t, 3, api.Hub{Ages: three, Age: 7, Pos: 2}, api.Hub{Ages: three, Age: 7, Hold: 6, Pos: 0}, api.OK)
	eight := [8]int{8, 8, 8, 8, 8, 8, 1, 0}
	checkSettle(t, 8, api.Hub{Ages: eight, Age: 17}, api.Hub{Ages: eight, Age: 17, Hold: 16, Pos: 7}, api.OK)
}

// P12.1: what a hub relays, and what becomes of it, by such as are written out.
func TestRelayKnown(t *testing.T) {
	ages, far := [8]int{4, 3, 2, 1}, [8]int{4, 4, 4, 4}
	cases := []struct {
		h    api.Hub
		l    frames
		want api.Hub
		f    api.Frame
	}{
		// It holds the slot 2: the Info of the port 2 alone.
		{api.Hub{Ages: ages, Port: 1, Age: 9, Hold: 3, Pos: 2}, frames{nothing, nothing, infoOf(2), nothing}, api.Hub{Ages: ages, Port: 1, Age: 9, Hold: 8, Pos: 2}, infoOf(2)},
		{api.Hub{Ages: ages, Port: 1, Age: 9, Hold: 1, Pos: 2}, frames{infoOf(0), csOf(1), infoOf(2), infoOf(3)}, api.Hub{Ages: ages, Port: 1, Age: 9, Hold: 8, Pos: 2}, infoOf(2)},
		{api.Hub{Ages: ages, Port: 1, Age: 0, Hold: 8, Pos: 2}, frames{csOf(0), csOf(1), infoOf(2), csOf(3)}, api.Hub{Ages: ages, Port: 1, Age: 0, Hold: 8, Pos: 2}, infoOf(2)},
		{api.Hub{Ages: ages, Port: 1, Age: 9, Hold: 3, Pos: 2}, frames{infoOf(0), infoOf(1), nothing, infoOf(3)}, api.Hub{Ages: ages, Port: 1, Age: 9, Hold: 3, Pos: 2}, nothing},
		{api.Hub{Ages: ages, Port: 1, Age: 9, Hold: 1, Pos: 2}, frames{csOf(0), csOf(1), csOf(2), csOf(3)}, api.Hub{Ages: ages, Port: 1, Age: 9, Hold: 1, Pos: 2}, nothing},
		{api.Hub{Ages: ages, Port: 1, Age: 9, Hold: 3, Pos: 0}, frames{nothing, nothing, nothing, nothing}, api.Hub{Ages: ages, Port: 1, Age: 9, Hold: 3, Pos: 0}, nothing},
		// It holds none, and its last Cs is long ago: the Cs of the least port, and what was said ahead of it votes no more.
		{api.Hub{Ages: ages, Port: 1, Age: 9, Pos: 2}, frames{csOf(0), csOf(1), csOf(2), csOf(3)}, api.Hub{Ages: far, Port: 0, Age: 0, Pos: 2}, csOf(0)},
		{api.Hub{Ages: ages, Port: 1, Age: 9, Pos: 2}, frames{infoOf(0), nothing, csOf(2), csOf(3)}, api.Hub{Ages: far, Port: 2, Age: 0, Pos: 2}, csOf(2)},
		{api.Hub{Ages: ages, Port: 1, Age: 9, Pos: 3}, frames{infoOf(0), infoOf(1), infoOf(2), csOf(3)}, api.Hub{Ages: far, Port: 3, Age: 0, Pos: 3}, csOf(3)},
		{api.Hub{Ages: ages, Port: 1, Age: 9, Pos: 2}, frames{infoOf(0), infoOf(1), infoOf(2), infoOf(3)}, api.Hub{Ages: ages, Port: 1, Age: 9, Pos: 2}, nothing},
		{api.Hub{Ages: ages, Port: 1, Age: 9, Pos: 2}, frames{nothing, nothing, nothing, nothing}, api.Hub{Ages: ages, Port: 1, Age: 9, Pos: 2}, nothing},
		// It holds none, and its last Cs is Block ticks ago, or less: none.
		{api.Hub{Ages: ages, Port: 1, Age: 8, Pos: 2}, frames{csOf(0), csOf(1), infoOf(2), csOf(3)}, api.Hub{Ages: ages, Port: 1, Age: 8, Pos: 2}, nothing},
		{api.Hub{Ages: ages, Port: 1, Age: 0, Pos: 2}, frames{csOf(0), csOf(1), infoOf(2), csOf(3)}, api.Hub{Ages: ages, Port: 1, Age: 0, Pos: 2}, nothing},
	}
	for _, c := range cases {
		checkRelay(t, 4, c.h, c.l, c.want, c.f, api.OK)
	}
	eight := make(frames, 8)
	eight[7] = csOf(7)
	checkRelay(t, 8, api.Hub{Age: 17}, eight, api.Hub{Ages: [8]int{8, 8, 8, 8, 8, 8, 8, 8}, Port: 7}, csOf(7), api.OK)
	checkRelay(t, 8, api.Hub{Age: 16}, eight, api.Hub{Age: 16}, nothing, api.OK)
	eight[7] = infoOf(7)
	checkRelay(t, 8, api.Hub{Age: 17, Hold: 1, Pos: 7}, eight, api.Hub{Age: 17, Hold: 16, Pos: 7}, infoOf(7), api.OK)
}

// P12.1: a fresh hub relays the Cs of the least port, whichever that is, of each number of nodes.
func TestFreshRelaysLeast(t *testing.T) {
	for n := 3; n <= 8; n++ {
		fresh, _ := vote.Fresh(n)
		for set := range 1 << n {
			l, least := make(frames, n), nothing
			for p := n - 1; p >= 0; p-- {
				l[p] = infoOf(p)
				if set>>p&1 == 1 {
					l[p], least = csOf(p), csOf(p)
				}
			}
			want := fresh
			if set != 0 {
				want.Port, want.Age = least.Id, 0
			}
			checkRelay(t, n, fresh, l, want, least, api.OK)
		}
	}
}

// P12.1: the errors: ErrArg ahead of ErrRange, and nothing is beside either.
func TestErrors(t *testing.T) {
	good := api.Hub{Ages: [8]int{2, 1, 0, 4}, Port: 1, Age: 9, Hold: 3, Pos: 2}
	fit := frames{csOf(0), nothing, infoOf(2), nothing}
	for _, l := range []frames{fit[:3], append(slices.Clone(fit), nothing), nil, {}, {csOf(0), nothing, infoOf(1), nothing}, {csOf(0), {Kind: 3}, infoOf(2), nothing}} {
		checkNote(t, 4, good, l, api.Hub{}, api.ErrRange)
		checkRelay(t, 4, good, l, api.Hub{}, nothing, api.ErrRange)
	}
	for i := range numbers(&good) {
		for _, x := range []int{math.MinInt, -1, 10, math.MaxInt} {
			h := good
			*numbers(&h)[i] = x
			for _, l := range []frames{fit, fit[:3], nil} {
				checkNote(t, 4, h, l, api.Hub{}, api.ErrArg)
				checkRelay(t, 4, h, l, api.Hub{}, nothing, api.ErrArg)
			}
			checkSettle(t, 4, h, api.Hub{}, api.ErrArg)
		}
	}
	for _, n := range wrongNumbers {
		for _, h := range []api.Hub{{}, good} {
			for _, l := range []frames{fit, fit[:3], nil, make(frames, 9)} {
				checkAll(t, n, h, l)
			}
		}
	}
}

// P12.1: all hubs of three nodes, with all that they may take in, each call.
func TestAllOfThree(t *testing.T) {
	lists := allLists(3)
	if len(lists) != 27 {
		t.Fatal(len(lists))
	}
	eachHubOfThree(func(h api.Hub) {
		checkSettle(t, 3, h, settleOf(3, h), api.OK)
		for _, l := range lists {
			checkNote(t, 3, h, l, noteOf(3, h, l), api.OK)
			want, f := relayOf(3, h, l)
			checkRelay(t, 3, h, l, want, f, api.OK)
		}
	})
}

// P12.1: hubs that may be, of any number of nodes, hubs that hold anything, and lists that hold anything.
func TestAny(t *testing.T) {
	r := rand.New(rand.NewSource(121))
	for range 40000 {
		n := 3 + r.Intn(6)
		h, l := rightHub(r, n), rightList(r, n)
		checkAll(t, n, h, l)
		checkAll(t, 2+r.Intn(8), h, l)
		checkAll(t, n, anyHub(r), l)
		checkAll(t, n, h, rightList(r, 2+r.Intn(8)))
		*numbers(&h)[r.Intn(12)] = oneOf(r, anyInts)
		checkAll(t, n, h, l)
		l[r.Intn(n)] = anyFrame(r)
		checkAll(t, n, h, l)
		checkAll(t, n, rightHub(r, n), l)
	}
}

// P12.1: hubs and lists that are handed in stay as they were, the lists' spare room too.
func TestHandedInStays(t *testing.T) {
	r := rand.New(rand.NewSource(122))
	for range 2000 {
		n := 3 + r.Intn(6)
		h := rightHub(r, n)
		long := append(rightList(r, n), anyFrame(r), anyFrame(r))
		was, wasLong := h, slices.Clone(long)
		l := long[:n]
		noted, _ := Note(n, h, l)
		settled, _ := Settle(n, h)
		relayed, _, _ := Relay(n, h, l)
		noted.Ages[0], settled.Ages[0], relayed.Ages[0] = 99, 99, 99
		if h != was || !slices.Equal(long, wasLong) {
			t.Fatalf("%v was %v, %v was %v", h, was, long, wasLong)
		}
	}
}

// checkLaw holds what is relayed of h and l against what follows, whatever it is by the words.
func checkLaw(t *testing.T, n int, h api.Hub, l frames) (api.Hub, api.Frame) {
	t.Helper()
	got, f, e := Relay(n, h, l)
	if e != api.OK || !vote.Right(n, got) {
		t.Fatalf("Relay(%d, %v, %v) = %v, %v, %d", n, h, l, got, f, e)
	}
	switch {
	case f == nothing:
		if got != h {
			t.Fatalf("%v relays nothing of %v, and is %v", h, l, got)
		}
	case h.Hold > 0 && f != infoOf(h.Pos), h.Hold == 0 && f.Kind != api.Cs, f.Kind == api.Cs && got.Hold != 0, l[f.Id] != f:
		t.Fatalf("%v relays %v of %v, and is %v", h, f, l, got)
	}
	return got, f
}

// P12.2: of all hubs of three nodes: what holds a slot relays nothing but its owner's Info, what relays a Cs holds none, ahead of it and behind it; and a hub that relays nothing stays as it is.
func TestWhatHolds(t *testing.T) {
	lists := allLists(3)
	eachHubOfThree(func(h api.Hub) {
		for _, l := range lists {
			checkLaw(t, 3, h, l)
		}
	})
}

// spoken is what n ports take in, in one of three ways: anything; the Info of the port pos alone; a Cs of one port alone.
func spoken(r *rand.Rand, n, way, pos int) frames {
	l := make(frames, n)
	switch way {
	case 0:
		return rightList(r, n)
	case 1:
		l[pos] = infoOf(pos)
	default:
		p := r.Intn(n)
		l[p] = csOf(p)
	}
	return l
}

// P12.2: hubs that go on, tick by tick, each of the ways for a while; frames of both kinds are relayed.
func TestWhatHoldsGoesOn(t *testing.T) {
	r := rand.New(rand.NewSource(123))
	count := map[int]int{}
	for range 200 {
		n := 3 + r.Intn(6)
		h := rightHub(r, n)
		for tick := range 240 {
			h, _ = vote.Tick(n, h)
			l := spoken(r, n, tick/40%3, h.Pos)
			noted, e := Note(n, h, l)
			settled, se := Settle(n, noted)
			if e != api.OK || se != api.OK || !vote.Right(n, noted) || !vote.Right(n, settled) {
				t.Fatalf("%v of %d, and %v: %v, %d, %v, %d", h, n, l, noted, e, settled, se)
			}
			var f api.Frame
			h, f = checkLaw(t, n, settled, l)
			count[f.Kind]++
		}
	}
	if count[api.Cs] < 300 || count[api.Info] < 300 || count[api.None] < 300 {
		t.Fatalf("relayed, by kinds: %v", count)
	}
}
