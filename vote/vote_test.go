package vote

import (
	"math"
	"math/rand"
	"testing"

	"daybreak/api"
)

// wrongNumbers are such as no number of nodes is.
var wrongNumbers = []int{math.MinInt, math.MinInt + 1, -1 << 32, -8, -3, -1, 0, 1, 2, 9, 10, 255, 259, 1<<32 + 3, 1<<32 + 8, math.MaxInt - 1, math.MaxInt}

// some are numbers around each end that the chapter names, and the ends of int.
func some() []int {
	l := []int{math.MinInt, math.MinInt + 1, -1 << 32, -1 << 31, -1 << 8}
	for x := -9; x <= 19; x++ {
		l = append(l, x)
	}
	return append(l, 255, 256, 1<<31-1, 1<<31, 1<<32, 1<<32+1, math.MaxInt-1, math.MaxInt)
}

// anyHub is a hub that holds anything; the seed is the caller's, so that a failure comes again.
func anyHub(r *rand.Rand) api.Hub {
	l := some()
	one := func() int {
		if r.Intn(4) == 0 {
			return int(r.Uint64())
		}
		return l[r.Intn(len(l))]
	}
	h := api.Hub{Port: one(), Age: one(), Hold: one(), Pos: one()}
	for p := range h.Ages {
		h.Ages[p] = one()
	}
	return h
}

// rightHub is a hub that may be, of n; one number of each kind in four stands at an end.
func rightHub(r *rand.Rand, n int) api.Hub {
	upTo := func(most int) int {
		if r.Intn(4) == 0 {
			return most * r.Intn(2)
		}
		return r.Intn(most + 1)
	}
	h := api.Hub{Port: upTo(n - 1), Age: upTo(2*n + 1), Hold: upTo(2 * n), Pos: upTo(n - 1)}
	for p := range n {
		h.Ages[p] = upTo(n)
	}
	return h
}

// numbers are all the numbers of h, to be changed one by one.
func numbers(h *api.Hub) []*int {
	l := []*int{&h.Port, &h.Age, &h.Hold, &h.Pos}
	for p := range h.Ages {
		l = append(l, &h.Ages[p])
	}
	return l
}

// mayBe is the chapter's definition, word by word.
func mayBe(n int, h api.Hub) bool {
	if n < 3 || n > 8 {
		return false
	}
	for p, age := range h.Ages {
		if p <= n-1 && (age < 0 || age > n) || p > n-1 && age != 0 {
			return false
		}
	}
	return h.Port >= 0 && h.Port <= n-1 && h.Age >= 0 && h.Age <= 2*n+1 && h.Hold >= 0 && h.Hold <= 2*n && h.Pos >= 0 && h.Pos <= n-1
}

// slotNow is which slot is now, if p was so many ticks ago, of a round of n, gone tick by tick.
func slotNow(n, p, ticks int) int {
	for range ticks {
		if p++; p == n {
			p = 0
		}
	}
	return p
}

// portVotes is whether the port p of h, which may be, votes for the slot v, by the words of the chapter.
func portVotes(n int, h api.Hub, p, v int) bool {
	if h.Ages[p] < n && v == slotNow(n, p, h.Ages[p]) {
		return true
	}
	return p == h.Port && h.Age < 2*n && v == slotNow(n, p, h.Age)
}

// votesOf is how many ports of h vote for the slot v, by the words of the chapter.
func votesOf(n int, h api.Hub, v int) int {
	if !mayBe(n, h) || v < 0 || v > n-1 {
		return 0
	}
	votes := 0
	for p := 0; p < n; p++ {
		if portVotes(n, h, p, v) {
			votes++
		}
	}
	return votes
}

// bestOf is the slot of h with most votes, and how many these are, by the words of the chapter.
func bestOf(n int, h api.Hub) (int, int) {
	if !mayBe(n, h) {
		return 0, 0
	}
	most := 0
	for v := 0; v < n; v++ {
		most = max(most, votesOf(n, h, v))
	}
	v := 0
	for votesOf(n, h, v) != most {
		v++
	}
	return v, most
}

// held is x, or the end of 0 and most that it is beyond.
func held(x, most int) int {
	if x < 0 {
		return 0
	}
	if x > most {
		return most
	}
	return x
}

// leftOf is what is left of x divided by n, from 0 on.
func leftOf(n, x int) int { return (x%n + n) % n }

// cleanOf is h made right, of n nodes, by the words of the chapter.
func cleanOf(n int, h api.Hub) api.Hub {
	c := api.Hub{Port: leftOf(n, h.Port), Age: held(h.Age, 2*n+1), Hold: held(h.Hold, 2*n), Pos: leftOf(n, h.Pos)}
	for p := 0; p < n; p++ {
		c.Ages[p] = held(h.Ages[p], n)
	}
	return c
}

// tickOf is h, which may be, a tick later, by the words of the chapter.
func tickOf(n int, h api.Hub) api.Hub {
	for p := 0; p < n; p++ {
		h.Ages[p] = held(h.Ages[p]+1, n)
	}
	h.Age, h.Hold, h.Pos = held(h.Age+1, 2*n+1), held(h.Hold-1, 2*n), leftOf(n, h.Pos+1)
	return h
}

// check holds all calls on h against the words of the chapter.
func check(t *testing.T, n int, h api.Hub) {
	t.Helper()
	may := mayBe(n, h)
	if got := Right(n, h); got != may {
		t.Fatalf("Right(%d, %v) = %v", n, h, got)
	}
	checkVotes(t, n, h)
	later, cleaned := api.Hub{}, api.Hub{}
	laterE, cleanE := api.ErrArg, api.ErrArg
	if may {
		later, laterE = tickOf(n, h), api.OK
	}
	if n >= 3 && n <= 8 {
		cleaned, cleanE = cleanOf(n, h), api.OK
	}
	if got, e := Tick(n, h); got != later || e != laterE {
		t.Fatalf("Tick(%d, %v) = %v, %d, want %v, %d", n, h, got, e, later, laterE)
	}
	if got, e := Clean(n, h); got != cleaned || e != cleanE {
		t.Fatalf("Clean(%d, %v) = %v, %d, want %v, %d", n, h, got, e, cleaned, cleanE)
	}
}

// checkVotes holds Votes and Best of h against the words of the chapter.
func checkVotes(t *testing.T, n int, h api.Hub) {
	t.Helper()
	for v := -1; v <= 9; v++ {
		if got, want := Votes(n, h, v), votesOf(n, h, v); got != want {
			t.Fatalf("Votes(%d, %v, %d) = %d, want %d", n, h, v, got, want)
		}
	}
	best, most := Best(n, h)
	if wantBest, wantMost := bestOf(n, h); best != wantBest || most != wantMost {
		t.Fatalf("Best(%d, %v) = %d, %d, want %d, %d", n, h, best, most, wantBest, wantMost)
	}
}

// P11.1: the fresh hub of each number of nodes, and that it has no votes; of other numbers ErrArg, and the zero hub beside it.
func TestFresh(t *testing.T) {
	want := map[int]api.Hub{
		3: {Ages: [8]int{3, 3, 3}, Age: 7},
		4: {Ages: [8]int{4, 4, 4, 4}, Age: 9},
		5: {Ages: [8]int{5, 5, 5, 5, 5}, Age: 11},
		6: {Ages: [8]int{6, 6, 6, 6, 6, 6}, Age: 13},
		7: {Ages: [8]int{7, 7, 7, 7, 7, 7, 7}, Age: 15},
		8: {Ages: [8]int{8, 8, 8, 8, 8, 8, 8, 8}, Age: 17},
	}
	for n, h := range want {
		if got, e := Fresh(n); got != h || e != api.OK || !Right(n, got) {
			t.Errorf("Fresh(%d) = %v, %d", n, got, e)
		}
		for v := range n {
			if votes := Votes(n, h, v); votes != 0 {
				t.Errorf("the fresh hub of %d has %d votes for %d", n, votes, v)
			}
		}
		if v, votes := Best(n, h); v != 0 || votes != 0 {
			t.Errorf("the fresh hub of %d has %d votes for %d", n, votes, v)
		}
	}
	for _, n := range wrongNumbers {
		if got, e := Fresh(n); got != (api.Hub{}) || e != api.ErrArg {
			t.Errorf("Fresh(%d) = %v, %d", n, got, e)
		}
	}
}

// P11.1: which hubs may be, by such as are written out.
func TestRightOfKnown(t *testing.T) {
	cases := []struct {
		n    int
		h    api.Hub
		want bool
	}{
		{4, api.Hub{}, true},
		{4, api.Hub{Ages: [8]int{4, 4, 4, 4}, Port: 3, Age: 9, Hold: 8, Pos: 3}, true},
		{4, api.Hub{Ages: [8]int{0, 0, 0, 5}}, false},
		{4, api.Hub{Ages: [8]int{-1}}, false},
		{4, api.Hub{Ages: [8]int{0, 0, 0, 0, 1}}, false},
		{4, api.Hub{Ages: [8]int{0, 0, 0, 0, -1}}, false},
		{4, api.Hub{Ages: [8]int{0, 0, 0, 0, 0, 0, 0, 4}}, false},
		{4, api.Hub{Port: 4}, false},
		{4, api.Hub{Port: -1}, false},
		{4, api.Hub{Age: 10}, false},
		{4, api.Hub{Age: -1}, false},
		{4, api.Hub{Hold: 9}, false},
		{4, api.Hub{Hold: -1}, false},
		{4, api.Hub{Pos: 4}, false},
		{4, api.Hub{Pos: -1}, false},
		{4, api.Hub{Pos: 1 << 32}, false},
		{3, api.Hub{Ages: [8]int{3, 3, 3}, Port: 2, Age: 7, Hold: 6, Pos: 2}, true},
		{3, api.Hub{Age: 8}, false},
		{8, api.Hub{Ages: [8]int{8, 8, 8, 8, 8, 8, 8, 8}, Port: 7, Age: 17, Hold: 16, Pos: 7}, true},
		{8, api.Hub{Ages: [8]int{8, 8, 8, 8, 8, 8, 8, 9}}, false},
		{8, api.Hub{Hold: 17}, false},
	}
	for _, c := range cases {
		if got := Right(c.n, c.h); got != c.want {
			t.Errorf("Right(%d, %v) = %v", c.n, c.h, got)
		}
	}
}

// P11.1: each number of a hub by itself, around its ends and at those of int, by all calls.
func TestEachNumber(t *testing.T) {
	for n := 2; n <= 9; n++ {
		fresh, _ := Fresh(n)
		for _, from := range []api.Hub{{}, fresh} {
			for i := range numbers(&from) {
				for _, x := range some() {
					h := from
					*numbers(&h)[i] = x
					check(t, n, h)
				}
			}
		}
	}
}

// P11.1: votes that are written out.
func TestVotesOfKnown(t *testing.T) {
	far := [8]int{4, 4, 4, 4}
	cases := []struct {
		h    api.Hub
		want [4]int
		best int
		most int
	}{
		// A Cs of Block ticks ago, or of more, votes no more.
		{api.Hub{Ages: far, Age: 9}, [4]int{}, 0, 0},
		{api.Hub{Ages: far, Age: 8}, [4]int{}, 0, 0},
		{api.Hub{Ages: far, Age: 7}, [4]int{0, 0, 0, 1}, 3, 1},
		{api.Hub{Ages: far, Age: 0}, [4]int{1, 0, 0, 0}, 0, 1},
		{api.Hub{Ages: far, Port: 3, Age: 1}, [4]int{1, 0, 0, 0}, 0, 1},
		{api.Hub{Ages: far, Port: 3, Age: 5}, [4]int{1, 0, 0, 0}, 0, 1},
		{api.Hub{Ages: [8]int{4, 0, 4, 4}, Age: 9}, [4]int{0, 1, 0, 0}, 1, 1},
		{api.Hub{Ages: [8]int{4, 3, 4, 4}, Age: 9}, [4]int{1, 0, 0, 0}, 0, 1},
		// An active round: each said its Info in its slot.
		{api.Hub{Ages: [8]int{2, 1, 0, 3}, Age: 9, Hold: 8, Pos: 2}, [4]int{0, 0, 4, 0}, 2, 4},
		{api.Hub{Ages: [8]int{0, 0, 0, 0}, Age: 9}, [4]int{1, 1, 1, 1}, 0, 1},
		{api.Hub{Ages: [8]int{4, 0, 4, 0}, Age: 9}, [4]int{0, 1, 0, 1}, 1, 1},
		{api.Hub{Ages: [8]int{4, 0, 1, 2}, Age: 9}, [4]int{0, 2, 0, 1}, 1, 2},
		{api.Hub{Ages: [8]int{0, 3, 0, 3}, Age: 9}, [4]int{2, 0, 2, 0}, 0, 2},
		// One port that votes for two slots, and one that votes twice for one, which is one vote.
		{api.Hub{Ages: [8]int{4, 4, 1, 4}, Port: 2, Age: 2}, [4]int{1, 0, 0, 1}, 0, 1},
		{api.Hub{Ages: [8]int{4, 4, 1, 4}, Port: 2, Age: 1}, [4]int{0, 0, 0, 1}, 3, 1},
		{api.Hub{Ages: [8]int{4, 4, 1, 4}, Port: 2, Age: 5}, [4]int{0, 0, 0, 1}, 3, 1},
		{api.Hub{Ages: [8]int{4, 4, 1, 4}, Port: 1, Age: 2}, [4]int{0, 0, 0, 2}, 3, 2},
		{api.Hub{Ages: [8]int{4, 2, 4, 4}, Port: 0, Age: 7}, [4]int{0, 0, 0, 2}, 3, 2},
		// What is held, and which slot is now by the hub, are no votes.
		{api.Hub{Ages: far, Age: 9, Hold: 8, Pos: 2}, [4]int{}, 0, 0},
	}
	for _, c := range cases {
		for v, want := range c.want {
			if got := Votes(4, c.h, v); got != want {
				t.Errorf("Votes(4, %v, %d) = %d, want %d", c.h, v, got, want)
			}
		}
		if best, most := Best(4, c.h); best != c.best || most != c.most {
			t.Errorf("Best(4, %v) = %d, %d, want %d, %d", c.h, best, most, c.best, c.most)
		}
	}
}

// P11.1: slots that there aren't have no votes, though a slot that is left of them has.
func TestVotesOfNoSlot(t *testing.T) {
	for n := 3; n <= 8; n++ {
		h := api.Hub{}
		for v := range n {
			if got := Votes(n, h, v); got != 1 {
				t.Errorf("Votes(%d, %v, %d) = %d", n, h, v, got)
			}
		}
		for _, v := range []int{math.MinInt, -1 << 32, -n, -1, n, n + 1, 2 * n, 1 << 32, 1<<32 + 1, math.MaxInt} {
			if got := Votes(n, h, v); got != 0 {
				t.Errorf("Votes(%d, %v, %d) = %d", n, h, v, got)
			}
		}
	}
}

// P11.1: hubs that may not be have no votes, no best slot and no next tick.
func TestHubsThatMayNotBe(t *testing.T) {
	// Two votes for the slot 2, and a number beside them that may not be.
	good := api.Hub{Ages: [8]int{4, 1, 0, 4}, Port: 0, Age: 9, Pos: 1}
	if v, votes := Best(4, good); v != 2 || votes != 2 {
		t.Fatalf("Best(4, %v) = %d, %d", good, v, votes)
	}
	for i := range numbers(&good) {
		for _, x := range []int{math.MinInt, -1, 10, math.MaxInt} {
			h := good
			*numbers(&h)[i] = x
			v, votes := Best(4, h)
			later, e := Tick(4, h)
			if Right(4, h) || Votes(4, h, 2) != 0 || v != 0 || votes != 0 || later != (api.Hub{}) || e != api.ErrArg {
				t.Errorf("%v: %d votes for 2; Best %d, %d; Tick %v, %d", h, Votes(4, h, 2), v, votes, later, e)
			}
		}
	}
	for _, n := range wrongNumbers {
		check(t, n, good)
		check(t, n, api.Hub{})
	}
}

// P11.1: hubs made right, by such as are written out.
func TestCleanOfKnown(t *testing.T) {
	lows := api.Hub{Ages: [8]int{-1, -2, -3, -4, -5, -6, -7, math.MinInt}, Port: -1, Age: math.MinInt, Hold: -1, Pos: -5}
	highs := api.Hub{Ages: [8]int{9, 8, 7, 6, 5, 4, 3, math.MaxInt}, Port: 4, Age: math.MaxInt, Hold: 99, Pos: 7}
	cases := []struct {
		n       int
		h, want api.Hub
	}{
		{4, lows, api.Hub{Port: 3, Pos: 3}},
		{3, lows, api.Hub{Port: 2, Pos: 1}},
		{8, lows, api.Hub{Port: 7, Pos: 3}},
		{4, highs, api.Hub{Ages: [8]int{4, 4, 4, 4}, Port: 0, Age: 9, Hold: 8, Pos: 3}},
		{3, highs, api.Hub{Ages: [8]int{3, 3, 3}, Port: 1, Age: 7, Hold: 6, Pos: 1}},
		{8, highs, api.Hub{Ages: [8]int{8, 8, 7, 6, 5, 4, 3, 8}, Port: 4, Age: 17, Hold: 16, Pos: 7}},
	}
	for _, c := range cases {
		if got, e := Clean(c.n, c.h); got != c.want || e != api.OK {
			t.Errorf("Clean(%d, %v) = %v, %d, want %v", c.n, c.h, got, e, c.want)
		}
	}
}

// P11.1: ticks that are written out, to the ends of all counters.
func TestTickOfKnown(t *testing.T) {
	h := api.Hub{Ages: [8]int{0, 1, 2}, Port: 2, Age: 4, Hold: 2, Pos: 1}
	for _, want := range []api.Hub{
		{Ages: [8]int{1, 2, 3}, Port: 2, Age: 5, Hold: 1, Pos: 2},
		{Ages: [8]int{2, 3, 3}, Port: 2, Age: 6, Hold: 0, Pos: 0},
		{Ages: [8]int{3, 3, 3}, Port: 2, Age: 7, Hold: 0, Pos: 1},
		{Ages: [8]int{3, 3, 3}, Port: 2, Age: 7, Hold: 0, Pos: 2},
	} {
		later, e := Tick(3, h)
		if later != want || e != api.OK {
			t.Fatalf("Tick(3, %v) = %v, %d, want %v", h, later, e, want)
		}
		h = later
	}
}

// P11.1: all hubs of three nodes, each call.
func TestAllOfThree(t *testing.T) {
	h := api.Hub{}
	l := []*int{&h.Ages[0], &h.Ages[1], &h.Ages[2], &h.Port, &h.Age, &h.Hold, &h.Pos}
	each(l, []int{3, 3, 3, 2, 7, 6, 2}, func() { check(t, 3, h) })
}

// P11.1: all that is said to hubs of four nodes: their votes.
func TestVotesOfAllOfFour(t *testing.T) {
	h := api.Hub{Hold: 5, Pos: 3}
	l := []*int{&h.Ages[0], &h.Ages[1], &h.Ages[2], &h.Ages[3], &h.Port, &h.Age}
	each(l, []int{4, 4, 4, 4, 3, 9}, func() { checkVotes(t, 4, h) })
}

// each does f with the numbers of l at all values from 0 to most, together.
func each(l []*int, most []int, f func()) {
	if len(l) == 0 {
		f()
		return
	}
	for x := 0; x <= most[0]; x++ {
		*l[0] = x
		each(l[1:], most[1:], f)
	}
}

// P11.1: hubs that may be, of any number of nodes, and hubs that hold anything, against the words of the chapter.
func TestAny(t *testing.T) {
	r := rand.New(rand.NewSource(11))
	for range 40000 {
		n := 3 + r.Intn(6)
		h := rightHub(r, n)
		check(t, n, h)
		check(t, 2+r.Intn(8), h)
		*numbers(&h)[r.Intn(12)] = some()[r.Intn(len(some()))]
		check(t, n, h)
		check(t, n, anyHub(r))
		check(t, wrongNumbers[r.Intn(len(wrongNumbers))], h)
	}
}

// P11.1: a hub that is handed in stays as it was, and what is answered may be changed apart from it.
func TestHubsAreApart(t *testing.T) {
	h := api.Hub{Ages: [8]int{2, 1, 0, 3}, Port: 1, Age: 3, Hold: 8, Pos: 2}
	was := api.Hub{Ages: [8]int{2, 1, 0, 3}, Port: 1, Age: 3, Hold: 8, Pos: 2}
	later, _ := Tick(4, h)
	same, _ := Clean(4, h)
	wild := api.Hub{Ages: [8]int{99, -99}, Age: 99}
	_, _ = Clean(4, wild)
	later.Ages[0], same.Ages[0] = 7, 7
	if h != was || wild != (api.Hub{Ages: [8]int{99, -99}, Age: 99}) {
		t.Errorf("%v, %v", h, wild)
	}
	first, _ := Fresh(4)
	first.Ages[3] = 0
	if second, _ := Fresh(4); second != (api.Hub{Ages: [8]int{4, 4, 4, 4}, Age: 9}) {
		t.Errorf("Fresh(4) = %v", second)
	}
}

// alone is h, of n nodes, with the votes of the port p left, and no other ones.
func alone(n int, h api.Hub, p int) api.Hub {
	for q := range n {
		if q != p {
			h.Ages[q] = n
		}
	}
	if h.Port != p {
		h.Age = 2*n + 1
	}
	return h
}

// P11.2: a port votes for two slots at most, and for each of them once; without a Cs for one at most.
func TestTwoSlotsAtMost(t *testing.T) {
	r := rand.New(rand.NewSource(112))
	two := 0
	for range 20000 {
		n := 3 + r.Intn(6)
		h := rightHub(r, n)
		p := r.Intn(n)
		lone, votes := alone(n, h, p), 0
		for v := range n {
			k := Votes(n, lone, v)
			if k > 1 {
				t.Fatalf("Votes(%d, %v, %d) = %d", n, lone, v, k)
			}
			votes += k
		}
		if votes > 2 || votes == 2 && h.Port != p {
			t.Fatalf("the port %d of %v has %d votes of %d", p, lone, votes, n)
		}
		if votes == 2 {
			two++
		}
	}
	if two == 0 {
		t.Fatal("no port votes for two slots")
	}
}

// P11.2: who votes for a slot votes for the next one a tick later, until its vote ends: an Info's after n ticks, that of a Cs after Block ones.
func TestVotesGoOn(t *testing.T) {
	for n := 3; n <= 8; n++ {
		for p := range n {
			byInfo, _ := Fresh(n)
			byInfo.Ages[p] = 0
			goOn(t, n, byInfo, p, n)
			byCs, _ := Fresh(n)
			byCs.Port, byCs.Age = p, 0
			goOn(t, n, byCs, p, 2*n)
		}
	}
}

// goOn goes on with h, which has a vote for v, tick by tick: it has one for the slot that is now, for so many ticks, and then none.
func goOn(t *testing.T, n int, h api.Hub, v, ticks int) {
	t.Helper()
	for i := range 3 * n {
		for w := range n {
			want := 0
			if i < ticks && w == v {
				want = 1
			}
			if got := Votes(n, h, w); got != want {
				t.Fatalf("%d ticks later: Votes(%d, %v, %d) = %d", i, n, h, w, got)
			}
		}
		v = (v + 1) % n
		h, _ = Tick(n, h)
	}
}

// P11.2: of any hub that may be, each port's votes go on a tick later, and no vote comes from nowhere.
func TestVotesOfAnyGoOn(t *testing.T) {
	r := rand.New(rand.NewSource(113))
	for range 20000 {
		n := 3 + r.Intn(6)
		h := rightHub(r, n)
		later, e := Tick(n, h)
		if e != api.OK || !Right(n, later) {
			t.Fatalf("Tick(%d, %v) = %v, %d", n, h, later, e)
		}
		for p := range n {
			was, is := alone(n, h, p), alone(n, later, p)
			ends := was.Ages[p] == n-1 || was.Age == 2*n-1
			for v := range n {
				had, has := Votes(n, was, v), Votes(n, is, (v+1)%n)
				if has > had || has < had && !ends {
					t.Fatalf("the port %d of %v: %d votes for %d, and then %d for the next", p, h, had, v, has)
				}
			}
		}
	}
}
