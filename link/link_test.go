package link

import (
	"math"
	"math/rand"
	"slices"
	"testing"

	"daybreak/api"
	"daybreak/vote"
)

// frames are what is taken in, port by port.
type frames = []api.Frame

// hubs are both hubs, lists what they take in, said what they relay, ways from which hub the link delivers.
type (
	hubs  = [2]api.Hub
	lists = [2]frames
	said  = [2]api.Frame
	ways  = [2]bool
)

func csOf(id int) api.Frame { return api.Frame{Kind: 1, Id: id} }

func infoOf(id int) api.Frame { return api.Frame{Kind: 2, Id: id} }

// nothing is what a port takes in, if it takes in nothing.
var nothing = api.Frame{Kind: 0, Id: 0}

// allWays are all in which the link may deliver.
var allWays = []ways{{false, false}, {false, true}, {true, false}, {true, true}}

// wrongNumbers are such as no number of nodes is.
var wrongNumbers = []int{math.MinInt, math.MinInt + 1, -1 << 32, -8, -3, -1, 0, 1, 2, 9, 10, 255, 259, 1<<32 + 3, 1<<32 + 8, math.MaxInt - 1, math.MaxInt}

// anyInts are small numbers, and some about the ends of bytes, of 32 bits and of int.
var anyInts = []int{math.MinInt, -1 << 32, -256, -2, -1, 0, 1, 2, 3, 4, 5, 6, 7, 8, 9, 17, 18, 255, 256, 257, 1 << 32, 1<<32 + 1, math.MaxInt}

func oneOf(r *rand.Rand, l []int) int { return l[r.Intn(len(l))] }

// numbers are all the numbers of h, to be changed one by one.
func numbers(h *api.Hub) []*int {
	l := []*int{&h.Port, &h.Age, &h.Hold, &h.Pos}
	for p := range h.Ages {
		l = append(l, &h.Ages[p])
	}
	return l
}

// anyHub is a hub that holds anything.
func anyHub(r *rand.Rand) api.Hub {
	h := api.Hub{}
	for _, x := range numbers(&h) {
		*x = oneOf(r, anyInts)
	}
	return h
}

// rightHub is a hub that may be, of n; each number at an end more often than elsewhere.
func rightHub(r *rand.Rand, n int) api.Hub {
	h := api.Hub{}
	for i, most := range append([]int{n - 1, 2*n + 1, 2 * n, n - 1}, slices.Repeat([]int{n}, n)...) {
		at := numbers(&h)[i]
		if *at = r.Intn(most + 1); r.Intn(3) == 0 {
			*at = most * r.Intn(2)
		}
	}
	if r.Intn(2) == 0 {
		h.Hold = 0
	}
	return h
}

// rightHubs are two hubs that may be, of n, now and then alike.
func rightHubs(r *rand.Rand, n int) hubs {
	h := hubs{rightHub(r, n), rightHub(r, n)}
	if r.Intn(5) == 0 {
		h[1] = h[0]
	}
	return h
}

// own are the frames that the port p may take in.
func own(p int) frames { return frames{nothing, csOf(p), infoOf(p)} }

// rightList is what n ports may take in.
func rightList(r *rand.Rand, n int) frames {
	l := make(frames, n)
	for p := range l {
		if r.Intn(2) == 0 {
			l[p] = own(p)[r.Intn(3)]
		}
	}
	return l
}

// rightLists are what both hubs of n may take in, now and then the same.
func rightLists(r *rand.Rand, n int) lists {
	in := lists{rightList(r, n), rightList(r, n)}
	if r.Intn(5) == 0 {
		in[1] = slices.Clone(in[0])
	}
	return in
}

// mayBe is whether h may be, of a cluster of n, by the words of layer 11.
func mayBe(n int, h api.Hub) bool {
	if n < 3 || n > 8 {
		return false
	}
	within := func(x, most int) bool { return 0 <= x && x <= most }
	for p, x := range h.Ages {
		if p < n && !within(x, n) || p >= n && x != 0 {
			return false
		}
	}
	return within(h.Port, n-1) && within(h.Age, 2*n+1) && within(h.Hold, 2*n) && within(h.Pos, n-1)
}

// fits is whether l are such as n ports take in, by the words of layer 12.
func fits(n int, l frames) bool {
	for p, f := range l {
		if p >= n || !slices.Contains(own(p), f) {
			return false
		}
	}
	return len(l) == n
}

// cleanOf is h made right, of a cluster of n, by the words of layer 11.
func cleanOf(n int, h api.Hub) api.Hub {
	for p := range h.Ages {
		most := n
		if p >= n {
			most = 0
		}
		h.Ages[p] = max(0, min(h.Ages[p], most))
	}
	h.Age, h.Hold = max(0, min(h.Age, 2*n+1)), max(0, min(h.Hold, 2*n))
	h.Port, h.Pos = (h.Port%n+n)%n, (h.Pos%n+n)%n
	return h
}

// votesOf is how many ports of h, which may be, vote for the slot v, by the words of layer 11.
func votesOf(n int, h api.Hub, v int) int {
	votes := 0
	for p := range n {
		if h.Ages[p] < n && (p+h.Ages[p])%n == v || p == h.Port && h.Age < 2*n && (p+h.Age)%n == v {
			votes++
		}
	}
	return votes
}

// stepOf is h, which may be, behind a tick in which it took in l, which fits, and what it relays, by the words of layers 11 to 13.
func stepOf(n int, h api.Hub, l frames) (api.Hub, api.Frame) {
	for p := range n {
		if h.Ages[p] = min(h.Ages[p]+1, n); l[p].Kind == 2 {
			h.Ages[p] = 0
		}
	}
	h.Age, h.Hold, h.Pos = min(h.Age+1, 2*n+1), max(h.Hold-1, 0), (h.Pos+1)%n
	first, last := h.Pos, h.Pos
	if h.Hold == 0 {
		first, last = 0, n-1
	}
	most := 1
	for v := first; v <= last; v++ {
		if votes := votesOf(n, h, v); votes > most {
			most, h.Pos, h.Hold = votes, v, 2*n
		}
	}
	if h.Hold > 0 {
		if l[h.Pos].Kind == 2 {
			h.Hold = 2 * n
			return h, infoOf(h.Pos)
		}
		return h, nothing
	}
	for p := range n {
		if h.Age == 2*n+1 && l[p].Kind == 1 {
			h.Port, h.Age = p, 0
			for q := range n {
				h.Ages[q] = n
			}
			return h, csOf(p)
		}
	}
	return h, nothing
}

// together is what two hubs take in together, by the words of layer 10.
func together(in lists) frames {
	l := slices.Clone(in[0])
	for p, f := range in[1] {
		if l[p] == nothing {
			l[p] = f
		}
	}
	return l
}

// bothOf are both hubs behind a tick, and what each relays, by the words of the chapter: each of the four ways by itself.
func bothOf(n int, h hubs, in lists, delivers ways) (hubs, said) {
	both := together(in)
	mine, mf := stepOf(n, h[0], in[0])
	its, tf := stepOf(n, h[1], in[1])
	all, af := stepOf(n, h[0], both)
	switch delivers {
	case ways{true, true}:
		return hubs{all, all}, said{af, af}
	case ways{true, false}:
		return hubs{mine, all}, said{mf, af}
	case ways{false, true}:
		return hubs{all, its}, said{af, tf}
	default:
		return hubs{mine, its}, said{mf, tf}
	}
}

func checkStep(t *testing.T, n int, h hubs, in lists, delivers ways, want hubs, wf said, we api.Errno) {
	t.Helper()
	if got, f, e := Step(n, h, in, delivers); got != want || f != wf || e != we {
		t.Fatalf("Step(%d, %v, %v, %v) = %v, %v, %d, want %v, %v, %d", n, h, in, delivers, got, f, e, want, wf, we)
	}
}

// checkAny holds Step on h and in, which may hold anything, against the words of the chapter, in all ways.
func checkAny(t *testing.T, n int, h hubs, in lists) {
	t.Helper()
	for _, delivers := range allWays {
		switch {
		case !mayBe(n, h[0]) || !mayBe(n, h[1]):
			checkStep(t, n, h, in, delivers, hubs{}, said{}, api.ErrArg)
		case !fits(n, in[0]) || !fits(n, in[1]):
			checkStep(t, n, h, in, delivers, hubs{}, said{}, api.ErrRange)
		default:
			want, f := bothOf(n, h, in, delivers)
			checkStep(t, n, h, in, delivers, want, f, api.OK)
		}
	}
}

// checkClean holds Clean on h, which may hold anything, against the words of the chapter.
func checkClean(t *testing.T, n int, h hubs) {
	t.Helper()
	want, we := hubs{}, api.ErrArg
	if n >= 3 && n <= 8 {
		want, we = hubs{cleanOf(n, h[0]), cleanOf(n, h[1])}, api.OK
	}
	if got, e := Clean(n, h); got != want || e != we {
		t.Fatalf("Clean(%d, %v) = %v, %d, want %v, %d", n, h, got, e, want, we)
	}
}

// P14.1: fresh hubs that took in unlike Css, in all ways in which the link delivers.
func TestStepOfFresh(t *testing.T) {
	far := [8]int{4, 4, 4, 4}
	fresh := api.Hub{Ages: far, Age: 9}
	least, late := api.Hub{Ages: far, Port: 1, Pos: 1}, api.Hub{Ages: far, Port: 3, Pos: 1}
	in := lists{{nothing, nothing, nothing, csOf(3)}, {nothing, csOf(1), csOf(2), infoOf(3)}}
	checkStep(t, 4, hubs{fresh, fresh}, in, ways{false, false}, hubs{late, least}, said{csOf(3), csOf(1)}, api.OK)
	checkStep(t, 4, hubs{fresh, fresh}, in, ways{false, true}, hubs{least, least}, said{csOf(1), csOf(1)}, api.OK)
	checkStep(t, 4, hubs{fresh, fresh}, in, ways{true, false}, hubs{late, least}, said{csOf(3), csOf(1)}, api.OK)
	checkStep(t, 4, hubs{fresh, fresh}, in, ways{true, true}, hubs{least, least}, said{csOf(1), csOf(1)}, api.OK)
}

// P14.1: hubs that hold unlike slots, in all ways: the hub 1 goes on as the hub 0 was at the beginning of the tick, by what both took in; the hub 0 never as the hub 1.
func TestStepOfUnlike(t *testing.T) {
	far := [8]int{4, 4, 4, 4}
	zero, one := api.Hub{Ages: far, Age: 9, Hold: 5, Pos: 1}, api.Hub{Ages: far, Port: 2, Age: 3, Hold: 3, Pos: 2}
	in := lists{{nothing, csOf(1), nothing, infoOf(3)}, {csOf(0), nothing, infoOf(2), csOf(3)}}
	// By its own list the owner of its slot is silent; by both lists it speaks.
	silent := api.Hub{Ages: [8]int{4, 4, 4, 0}, Age: 9, Hold: 4, Pos: 2}
	spoken := api.Hub{Ages: [8]int{4, 4, 0, 0}, Age: 9, Hold: 8, Pos: 2}
	alone := api.Hub{Ages: [8]int{4, 4, 0, 4}, Port: 2, Age: 4, Hold: 2, Pos: 3}
	checkStep(t, 4, hubs{zero, one}, in, ways{false, false}, hubs{silent, alone}, said{nothing, nothing}, api.OK)
	checkStep(t, 4, hubs{zero, one}, in, ways{false, true}, hubs{spoken, alone}, said{infoOf(2), nothing}, api.OK)
	checkStep(t, 4, hubs{zero, one}, in, ways{true, false}, hubs{silent, spoken}, said{nothing, infoOf(2)}, api.OK)
	checkStep(t, 4, hubs{zero, one}, in, ways{true, true}, hubs{spoken, spoken}, said{infoOf(2), infoOf(2)}, api.OK)
}

// P14.1: where a port took in unlike frames at both hubs, that of the hub 0 counts for both.
func TestStepOfUnlikeFrames(t *testing.T) {
	far := [8]int{3, 3, 3}
	fresh := api.Hub{Ages: far, Age: 7}
	asks, notes := api.Hub{Ages: far, Port: 1, Pos: 1}, api.Hub{Ages: [8]int{3, 0, 3}, Age: 7, Pos: 1}
	in := lists{{nothing, csOf(1), nothing}, {nothing, infoOf(1), nothing}}
	back := lists{in[1], in[0]}
	for _, delivers := range allWays {
		want, f := hubs{asks, notes}, said{csOf(1), nothing}
		turned, g := hubs{notes, asks}, said{nothing, csOf(1)}
		if delivers[0] {
			want[1], f[1], turned[1], g[1] = asks, csOf(1), notes, nothing
		}
		checkStep(t, 3, hubs{fresh, fresh}, in, delivers, want, f, api.OK)
		checkStep(t, 3, hubs{fresh, fresh}, back, delivers, turned, g, api.OK)
	}
}

// P14.1: where nothing is taken in both relay nothing, fresh ones and all others.
func TestStepOfNothing(t *testing.T) {
	r := rand.New(rand.NewSource(140))
	for range 500 {
		n := 3 + r.Intn(6)
		fresh, _ := vote.Fresh(n)
		for _, h := range []hubs{{fresh, fresh}, rightHubs(r, n)} {
			for _, delivers := range allWays {
				if _, f, e := Step(n, h, lists{make(frames, n), make(frames, n)}, delivers); f != (said{}) || e != api.OK {
					t.Fatalf("Step(%d, %v, nothing, %v) relays %v, %d", n, h, delivers, f, e)
				}
			}
		}
	}
}

// P14.1: hubs made right, by such as are written out.
func TestCleanKnown(t *testing.T) {
	cases := []struct{ h, want api.Hub }{
		{api.Hub{}, api.Hub{}},
		{api.Hub{Ages: [8]int{-1, 4, 5, 9, 1}, Port: -1, Age: 10, Hold: 9, Pos: 9}, api.Hub{Ages: [8]int{0, 4, 4, 4, 0}, Port: 3, Age: 9, Hold: 8, Pos: 1}},
		{api.Hub{Ages: [8]int{1, 2, 3, 4, 0, 0, 0, -1}, Port: 4, Age: -1, Hold: -1, Pos: -8}, api.Hub{Ages: [8]int{1, 2, 3, 4}}},
		{api.Hub{Ages: [8]int{4, 4, 4, 4}, Port: 3, Age: 9, Hold: 8, Pos: 3}, api.Hub{Ages: [8]int{4, 4, 4, 4}, Port: 3, Age: 9, Hold: 8, Pos: 3}},
	}
	for _, a := range cases {
		for _, b := range cases {
			if got, e := Clean(4, hubs{a.h, b.h}); got != (hubs{a.want, b.want}) || e != api.OK {
				t.Fatalf("Clean(4, %v, %v) = %v, %d", a.h, b.h, got, e)
			}
		}
	}
}

// P14.1: of a wrong number of nodes ErrArg, and nothing beside it.
func TestWrongNumbers(t *testing.T) {
	r := rand.New(rand.NewSource(141))
	for _, n := range wrongNumbers {
		for _, h := range []hubs{{}, {rightHub(r, 3), rightHub(r, 3)}, {rightHub(r, 8), rightHub(r, 8)}, {anyHub(r), anyHub(r)}} {
			checkClean(t, n, h)
			for _, l := range []frames{nil, {}, make(frames, 3), make(frames, 9)} {
				checkAny(t, n, h, lists{l, l})
			}
		}
	}
}

// P14.1: ErrArg, if either hub may not be, even the one that goes on as the other one; ahead of ErrRange.
func TestWrongHubs(t *testing.T) {
	good := api.Hub{Ages: [8]int{2, 1, 0, 4}, Port: 1, Age: 9, Hold: 3, Pos: 2}
	fit := frames{csOf(0), nothing, infoOf(2), nothing}
	for i := range numbers(&good) {
		for _, x := range []int{math.MinInt, -1, 10, math.MaxInt} {
			bad := good
			*numbers(&bad)[i] = x
			for _, h := range []hubs{{good, bad}, {bad, good}, {bad, bad}} {
				checkClean(t, 4, h)
				for _, in := range []lists{{fit, fit}, {fit[:3], fit}, {fit, nil}, {nil, nil}} {
					for _, delivers := range allWays {
						checkStep(t, 4, h, in, delivers, hubs{}, said{}, api.ErrArg)
					}
				}
			}
		}
	}
}

// P14.1: ErrRange, if either list doesn't fit, even one of a hub that the link doesn't deliver from, or two that are as long.
func TestWrongLists(t *testing.T) {
	good := api.Hub{Ages: [8]int{2, 1, 0, 4}, Port: 1, Age: 9, Hold: 3, Pos: 2}
	fresh := api.Hub{Ages: [8]int{4, 4, 4, 4}, Age: 9}
	fit := frames{csOf(0), nothing, infoOf(2), nothing}
	wrong := []frames{fit[:3], append(slices.Clone(fit), nothing), nil, {}, {csOf(0), nothing, infoOf(1), nothing}, {csOf(0), {Kind: 3}, infoOf(2), nothing}, {nothing, {Id: 1}, nothing, nothing}}
	for _, l := range wrong {
		for _, in := range []lists{{fit, l}, {l, fit}, {l, l}} {
			for _, h := range []hubs{{good, good}, {good, fresh}, {fresh, good}} {
				for _, delivers := range allWays {
					checkStep(t, 4, h, in, delivers, hubs{}, said{}, api.ErrRange)
				}
			}
		}
	}
}

// P14.1: all hubs of three nodes, each with some other one, and with some of what both may take in.
func TestAllOfThree(t *testing.T) {
	r := rand.New(rand.NewSource(142))
	for x := range 4 * 4 * 4 * 3 * 8 * 7 * 3 {
		next := func(bound int) int {
			left := x % bound
			x /= bound
			return left
		}
		h := api.Hub{Ages: [8]int{next(4), next(4), next(4)}, Port: next(3), Age: next(8), Hold: next(7), Pos: next(3)}
		checkClean(t, 3, hubs{h, rightHub(r, 3)})
		checkAny(t, 3, hubs{h, rightHub(r, 3)}, rightLists(r, 3))
		checkAny(t, 3, hubs{rightHub(r, 3), h}, rightLists(r, 3))
	}
}

// P14.1: all that both hubs of three nodes may take in, with some hubs each.
func TestAllListsOfThree(t *testing.T) {
	r := rand.New(rand.NewSource(143))
	for x := range 729 {
		in := lists{make(frames, 3), make(frames, 3)}
		for i := range 6 {
			in[i/3][i%3] = own(i % 3)[x%3]
			x /= 3
		}
		for range 30 {
			checkAny(t, 3, rightHubs(r, 3), in)
		}
	}
}

// P14.1: hubs that may be, of any number of nodes, and such as hold anything, and lists that hold anything.
func TestAny(t *testing.T) {
	r := rand.New(rand.NewSource(144))
	for range 8000 {
		n := 3 + r.Intn(6)
		h, in := rightHubs(r, n), rightLists(r, n)
		checkAny(t, n, h, in)
		checkAny(t, 2+r.Intn(8), h, in)
		checkAny(t, n, hubs{anyHub(r), anyHub(r)}, in)
		checkClean(t, n, h)
		checkClean(t, 2+r.Intn(8), hubs{anyHub(r), anyHub(r)})
		l := in[r.Intn(2)]
		l[r.Intn(n)] = api.Frame{Kind: oneOf(r, anyInts), Id: oneOf(r, anyInts)}
		checkAny(t, n, h, in)
		in[r.Intn(2)] = rightList(r, 2+r.Intn(8))
		checkAny(t, n, h, in)
		*numbers(&h[r.Intn(2)])[r.Intn(12)] = oneOf(r, anyInts)
		checkAny(t, n, h, in)
		checkClean(t, n, h)
	}
}

// P14.1: hubs that are made right may be, and stay as they are if they are made right again.
func TestCleanMayBe(t *testing.T) {
	r := rand.New(rand.NewSource(145))
	for range 4000 {
		n := 3 + r.Intn(6)
		clean, _ := Clean(n, hubs{anyHub(r), anyHub(r)})
		again, e := Clean(n, clean)
		if again != clean || e != api.OK {
			t.Fatalf("Clean(%d, %v) = %v, %d", n, clean, again, e)
		}
		if _, _, e := Step(n, clean, rightLists(r, n), allWays[r.Intn(4)]); e != api.OK {
			t.Fatalf("Step(%d, %v) = %d", n, clean, e)
		}
	}
}

// P14.1: where the link doesn't deliver, what the other hub is, and took in, counts for nothing; and the hub 0 never goes on as the hub 1.
func TestWhatCounts(t *testing.T) {
	r := rand.New(rand.NewSource(146))
	for range 4000 {
		n := 3 + r.Intn(6)
		h, in := rightHubs(r, n), rightLists(r, n)
		other := hubs{h[0], rightHub(r, n)}
		for _, delivers := range allWays {
			got, f, _ := Step(n, h, in, delivers)
			turned := ways{delivers[0], !delivers[1]}
			byOther, g, _ := Step(n, other, in, delivers)
			byTurned, k, _ := Step(n, h, in, turned)
			if got[0] != byOther[0] || f[0] != g[0] || got[1] != byTurned[1] || f[1] != k[1] {
				t.Fatalf("%v of %d by %v, %v: %v, %v; %v, %v; %v, %v", h, n, in, delivers, got, f, byOther, g, byTurned, k)
			}
			if delivers[0] && got[1] != byOther[1] {
				t.Fatalf("%v and %v of %d by %v, %v: %v, %v", h, other, n, in, delivers, got, byOther)
			}
			unheard := lists{in[0], rightList(r, n)}
			if byUnheard, g, _ := Step(n, h, unheard, delivers); !delivers[1] && (byUnheard[0] != got[0] || g[0] != f[0]) {
				t.Fatalf("%v of %d by %v, %v, %v: %v, %v", h, n, in, unheard, delivers, got, byUnheard)
			}
		}
	}
}

// P14.1: hubs and lists that are handed in stay as they were, the lists' spare room too.
func TestHandedInStays(t *testing.T) {
	r := rand.New(rand.NewSource(147))
	for range 1000 {
		n := 3 + r.Intn(6)
		h, in := rightHubs(r, n), lists{append(rightList(r, n), csOf(99))[:n], append(rightList(r, n), csOf(98))[:n]}
		wasHubs, was := h, lists{slices.Clone(in[0][:n+1]), slices.Clone(in[1][:n+1])}
		for _, delivers := range allWays {
			first, f, _ := Step(n, h, in, delivers)
			again, g, _ := Step(n, h, in, delivers)
			if first != again || f != g || h != wasHubs || !slices.Equal(in[0][:n+1], was[0]) || !slices.Equal(in[1][:n+1], was[1]) {
				t.Fatalf("%v was %v, %v was %v, %v and %v", h, wasHubs, in, was, first, again)
			}
		}
		if Clean(n, h); h != wasHubs {
			t.Fatalf("%v was %v", h, wasHubs)
		}
	}
}

// P14.2: where the link delivers both ways, both are alike behind a tick, and relay the same, whatever they were and took in.
func TestAlike(t *testing.T) {
	r := rand.New(rand.NewSource(148))
	unlike := 0
	for range 20000 {
		n := 3 + r.Intn(6)
		h, in := rightHubs(r, n), rightLists(r, n)
		got, f, e := Step(n, h, in, ways{true, true})
		if e != api.OK || got[0] != got[1] || f[0] != f[1] {
			t.Fatalf("Step(%d, %v, %v, both ways) = %v, %v, %d", n, h, in, got, f, e)
		}
		if apart, g, _ := Step(n, h, in, ways{}); apart[0] != apart[1] && g[0] != g[1] {
			unlike++
		}
	}
	if unlike < 1000 {
		t.Fatal(unlike)
	}
}

// P14.2: ticks in a row, in which the link delivers now so, now so: behind each that it delivers in both ways, both are alike; they part in others, and come together.
func TestAlikeAgain(t *testing.T) {
	r := rand.New(rand.NewSource(149))
	parted, joined := 0, 0
	for range 400 {
		n := 3 + r.Intn(6)
		h := rightHubs(r, n)
		for range 60 {
			in, delivers := rightLists(r, n), allWays[r.Intn(4)]
			next, f, e := Step(n, h, in, delivers)
			want, wf := bothOf(n, h, in, delivers)
			if next != want || f != wf || e != api.OK || delivers == (ways{true, true}) && (next[0] != next[1] || f[0] != f[1]) {
				t.Fatalf("Step(%d, %v, %v, %v) = %v, %v, %d", n, h, in, delivers, next, f, e)
			}
			switch {
			case h[0] == h[1] && next[0] != next[1]:
				parted++
			case h[0] != h[1] && next[0] == next[1]:
				joined++
			}
			h = next
		}
	}
	if parted < 500 || joined < 500 {
		t.Fatal(parted, joined)
	}
}
