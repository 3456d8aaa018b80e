package port

import (
	"math"
	"math/rand"
	"slices"
	"testing"

	"daybreak/api"
	"daybreak/wire"
)

func cs(id int) api.Frame { return api.Frame{Kind: 1, Id: id} }

func info(id int) api.Frame { return api.Frame{Kind: 2, Id: id} }

// nothing is what a port takes in, if it takes in nothing.
var nothing = api.Frame{Kind: 0, Id: 0}

// Bytes that are written out, so that they don't hang on how wire puts them. Those of the kinds 0 and 3 have a right sum, but are no frame's that may be sent.
const (
	csOne     = "\xd8\x01\x01\x12\xc7\xbc\x4d"
	infoTwo   = "\xd8\x02\x02\xa0\xe3\xbe\x34"
	kindZero  = "\xd8\x00\x00\x7c\xdb\xbd\x9a"
	kindThree = "\xd8\x03\x00\x57\xf6\xee\x59"
)

// wrongNumbers are such as no number of nodes is.
var wrongNumbers = []int{math.MinInt, math.MinInt + 1, -1 << 32, -8, -3, -1, 0, 1, 2, 9, 10, 255, 259, 1<<32 + 3, 1<<32 + 8, math.MaxInt - 1, math.MaxInt}

// checkTake holds Take against what is to be answered.
func checkTake(t *testing.T, n int, l []string, want []api.Frame) {
	t.Helper()
	if got, e := Take(n, l); !slices.Equal(got, want) || e != api.OK {
		t.Errorf("Take(%d, %q) = %v, %d, want %v, 0", n, l, got, e, want)
	}
}

// P10.1: what ports take in, by bytes that are written out.
func TestTakeKnown(t *testing.T) {
	four := []api.Frame{nothing, nothing, nothing, nothing}
	checkTake(t, 3, []string{"", "", ""}, four[:3])
	checkTake(t, 3, []string{"", csOne, infoTwo}, []api.Frame{nothing, cs(1), info(2)})
	checkTake(t, 3, []string{csOne, infoTwo, csOne}, four[:3])
	checkTake(t, 4, []string{infoTwo, csOne, csOne, infoTwo}, []api.Frame{nothing, cs(1), nothing, nothing})
	checkTake(t, 4, []string{wire.Put(info(0)), wire.Put(cs(2)), wire.Put(cs(2)), wire.Put(info(3))}, []api.Frame{info(0), nothing, cs(2), info(3)})
	checkTake(t, 4, []string{wire.Put(cs(0)), "noise", "", "\x00"}, []api.Frame{cs(0), nothing, nothing, nothing})
	// Noise and no bytes are read with the Id 0, and yet the port 0 takes in nothing of them.
	for _, s := range []string{"", "\x00", "noise", kindZero, kindThree, csOne[:6], wire.Put(cs(0))[:6], wire.Put(cs(0)) + "\x00", "\x00" + wire.Put(info(0)), wire.Put(cs(0)) + wire.Put(cs(0))} {
		checkTake(t, 4, []string{s, s, s, s}, four)
	}
}

// P10.1: each frame at each port, of each number of nodes: it is taken in at the port of its Id, if there is one.
func TestTakeEachFrame(t *testing.T) {
	for n := 3; n <= 8; n++ {
		for id := 0; id <= 7; id++ {
			for _, f := range []api.Frame{cs(id), info(id)} {
				for p := range n {
					l, want := make([]string, n), make([]api.Frame, n)
					l[p] = wire.Put(f)
					if p == id {
						want[p] = f
					}
					checkTake(t, n, l, want)
				}
			}
		}
	}
}

// P10.1: what is no number of nodes is ErrArg, however many bytes there are; and nothing is beside it.
func TestTakeWrongNumber(t *testing.T) {
	for _, n := range wrongNumbers {
		for k := range 12 {
			l := make([]string, k)
			for i := range l {
				l[i] = wire.Put(cs(i % 8))
			}
			if got, e := Take(n, l); len(got) != 0 || e != api.ErrArg {
				t.Errorf("Take(%d, %d of them) = %v, %d", n, k, got, e)
			}
		}
		if got, e := Take(n, nil); len(got) != 0 || e != api.ErrArg {
			t.Errorf("Take(%d, nil) = %v, %d", n, got, e)
		}
	}
}

// P10.1: less or more bytes than nodes are ErrRange, and nothing is beside it.
func TestTakeWrongLength(t *testing.T) {
	for n := 3; n <= 8; n++ {
		for k := range 20 {
			l := make([]string, k)
			for i := range l {
				l[i] = wire.Put(info(i % 8))
			}
			got, e := Take(n, l)
			if k == n && (len(got) != n || e != api.OK) || k != n && (len(got) != 0 || e != api.ErrRange) {
				t.Errorf("Take(%d, %d of them) = %v, %d", n, k, got, e)
			}
		}
		if got, e := Take(n, nil); len(got) != 0 || e != api.ErrRange {
			t.Errorf("Take(%d, nil) = %v, %d", n, got, e)
		}
	}
}

// P10.1: what two lists are together, by such as are written out.
func TestBothKnown(t *testing.T) {
	cases := []struct{ a, b, want []api.Frame }{
		{nil, nil, nil},
		{nil, []api.Frame{}, nil},
		{[]api.Frame{}, nil, nil},
		{[]api.Frame{nothing}, []api.Frame{nothing}, []api.Frame{nothing}},
		{[]api.Frame{cs(0)}, []api.Frame{nothing}, []api.Frame{cs(0)}},
		{[]api.Frame{nothing}, []api.Frame{cs(0)}, []api.Frame{cs(0)}},
		{[]api.Frame{cs(0)}, []api.Frame{info(0)}, []api.Frame{cs(0)}},
		{[]api.Frame{info(0)}, []api.Frame{cs(0)}, []api.Frame{info(0)}},
		{
			[]api.Frame{nothing, cs(1), nothing, info(3)},
			[]api.Frame{info(0), info(1), nothing, nothing},
			[]api.Frame{info(0), cs(1), nothing, info(3)},
		},
		// None of another Id than 0 is something by the words, as any other frame that no port takes in.
		{[]api.Frame{{Kind: 0, Id: 5}}, []api.Frame{cs(0)}, []api.Frame{{Kind: 0, Id: 5}}},
		{[]api.Frame{{Kind: 0, Id: -1}}, []api.Frame{cs(0)}, []api.Frame{{Kind: 0, Id: -1}}},
		{[]api.Frame{{Kind: 3, Id: 0}}, []api.Frame{cs(0)}, []api.Frame{{Kind: 3, Id: 0}}},
		{[]api.Frame{nothing}, []api.Frame{{Kind: 3, Id: 9}}, []api.Frame{{Kind: 3, Id: 9}}},
		{[]api.Frame{nothing}, []api.Frame{{Kind: 0, Id: 5}}, []api.Frame{{Kind: 0, Id: 5}}},
	}
	for _, c := range cases {
		if got, e := Both(c.a, c.b); !slices.Equal(got, c.want) || e != api.OK {
			t.Errorf("Both(%v, %v) = %v, %d, want %v, 0", c.a, c.b, got, e, c.want)
		}
	}
}

// P10.1: lists of unlike lengths are ErrRange, and nothing is beside it; of like ones, however long, there are so many.
func TestBothLengths(t *testing.T) {
	for i := range 20 {
		for j := range 20 {
			a, b := slices.Repeat([]api.Frame{cs(1)}, i), slices.Repeat([]api.Frame{info(2)}, j)
			got, e := Both(a, b)
			if i == j && (!slices.Equal(got, a) || e != api.OK) || i != j && (len(got) != 0 || e != api.ErrRange) {
				t.Errorf("Both of %d and %d: %v, %d", i, j, got, e)
			}
		}
	}
}

// P10.1: the same, one by one.
func TestSame(t *testing.T) {
	three := []api.Frame{cs(0), info(1), nothing}
	cases := []struct {
		a, b []api.Frame
		want bool
	}{
		{nil, nil, true},
		{nil, []api.Frame{}, true},
		{[]api.Frame{}, nil, true},
		{nil, []api.Frame{nothing}, false},
		{[]api.Frame{nothing}, nil, false},
		{three, three, true},
		{three, []api.Frame{cs(0), info(1), nothing}, true},
		{three, three[:2], false},
		{three[:2], three, false},
		{three, append(slices.Clone(three), nothing), false},
		{three, []api.Frame{info(1), cs(0), nothing}, false},
		{three, []api.Frame{info(0), info(1), nothing}, false},
		{three, []api.Frame{cs(0), info(2), nothing}, false},
		{three, []api.Frame{cs(0), info(1), {Kind: 0, Id: 1}}, false},
		{three, []api.Frame{cs(0), info(1), {Kind: 3, Id: 0}}, false},
		{[]api.Frame{{Kind: math.MinInt, Id: math.MaxInt}}, []api.Frame{{Kind: math.MinInt, Id: math.MaxInt}}, true},
		{[]api.Frame{{Kind: 1 << 32, Id: 1}}, []api.Frame{{Kind: 0, Id: 1}}, false},
	}
	for _, c := range cases {
		if got := Same(c.a, c.b); got != c.want {
			t.Errorf("Same(%v, %v) = %v", c.a, c.b, got)
		}
	}
}

// anyFrames is a few frames that may hold anything; often nothing.
func anyFrames(r *rand.Rand) []api.Frame {
	values := []int{math.MinInt, -1, 0, 0, 0, 1, 2, 3, 7, 1 << 32, math.MaxInt}
	l := make([]api.Frame, r.Intn(4))
	for i := range l {
		l[i] = api.Frame{Kind: values[r.Intn(len(values))], Id: values[r.Intn(len(values))]}
	}
	return l
}

// P10.1: Both and Same of any lists, against the chapter's words.
func TestListsOfAny(t *testing.T) {
	r := rand.New(rand.NewSource(10))
	for range 200000 {
		a, b := anyFrames(r), anyFrames(r)
		if r.Intn(4) == 0 {
			b = slices.Clone(a)
		}
		checkLists(t, a, b)
	}
}

// checkLists holds Both and Same of a and b against the words of the chapter.
func checkLists(t *testing.T, a, b []api.Frame) {
	got, e := Both(a, b)
	same := len(a) == len(b)
	if !same {
		if len(got) != 0 || e != api.ErrRange {
			t.Fatalf("Both(%v, %v) = %v, %d", a, b, got, e)
		}
	} else if len(got) != len(a) || e != api.OK {
		t.Fatalf("Both(%v, %v) = %v, %d", a, b, got, e)
	}
	for i := range got {
		want := a[i]
		if a[i].Kind == 0 && a[i].Id == 0 {
			want = b[i]
		}
		if got[i] != want {
			t.Fatalf("Both(%v, %v) = %v", a, b, got)
		}
		if a[i].Kind != b[i].Kind || a[i].Id != b[i].Id {
			same = false
		}
	}
	if Same(a, b) != same {
		t.Fatalf("Same(%v, %v) = %v", a, b, !same)
	}
}

// P10.1: what is handed in is as it was, its spare room too, and no answer shares with it.
func TestListsAreLeft(t *testing.T) {
	bytes := append(make([]string, 0, 9), wire.Put(cs(0)), wire.Put(cs(1)), "noise", "")
	bytes[:4][3] = "spare"
	if l, e := Take(3, bytes[:3]); e != api.OK || !Same(l, []api.Frame{cs(0), cs(1), nothing}) {
		t.Fatalf("Take = %v, %d", l, e)
	}
	if want := []string{wire.Put(cs(0)), wire.Put(cs(1)), "noise", "spare"}; !slices.Equal(bytes, want) {
		t.Errorf("Take left %q", bytes)
	}
	full := []api.Frame{cs(0), cs(1), cs(2)}
	none := []api.Frame{nothing, nothing, info(7)}
	for _, l := range [][2][]api.Frame{{full[:2], none[:2]}, {none[:2], full[:2]}, {full[:2], full[:2]}} {
		got, e := Both(l[0], l[1])
		if e != api.OK || !Same(got, full[:2]) {
			t.Fatalf("Both = %v, %d", got, e)
		}
		got[0], got[1] = info(5), info(6)
		_ = append(got, info(4))
		if !Same(full, []api.Frame{cs(0), cs(1), cs(2)}) || !Same(none, []api.Frame{nothing, nothing, info(7)}) {
			t.Fatalf("Both's answer was changed, and so were %v, %v", full, none)
		}
	}
}

// P10.1: an answer stays as it is, whatever is asked behind it.
func TestAnswersAreApart(t *testing.T) {
	l := []string{wire.Put(cs(0)), wire.Put(cs(1)), wire.Put(cs(2))}
	first, _ := Take(3, l)
	second, _ := Take(3, l)
	second[0] = info(7)
	third, _ := Take(3, []string{"", "", ""})
	if !Same(first, []api.Frame{cs(0), cs(1), cs(2)}) || !Same(third, make([]api.Frame, 3)) {
		t.Errorf("%v, %v", first, third)
	}
}

// anyBytes is bytes of any kind: often those of a frame, or nearly so.
func anyBytes(r *rand.Rand) string {
	b := []byte(wire.Put(api.Frame{Kind: r.Intn(5), Id: r.Intn(9)}))
	switch r.Intn(4) {
	case 0:
		if len(b) > 0 {
			b[r.Intn(len(b))] ^= 1 << r.Intn(8)
		}
	case 1:
		b = make([]byte, r.Intn(10))
		r.Read(b)
	}
	return string(b)
}

// P10.2: whatever bytes come, a port takes in nothing, or a frame of its own node, whose bytes came; two hubs together neither take in another one's.
func TestOfItsOwnNodeAlone(t *testing.T) {
	r := rand.New(rand.NewSource(102))
	taken := 0
	for range 50000 {
		n := 3 + r.Intn(6)
		hubs := [2][]api.Frame{}
		for j := range hubs {
			l := make([]string, n)
			for i := range l {
				l[i] = anyBytes(r)
			}
			hubs[j], _ = Take(n, l)
			for i, f := range hubs[j] {
				if f != nothing && wire.Put(f) != l[i] {
					t.Fatalf("Take(%d, %q) = %v", n, l, hubs[j])
				}
				// What is the own frame's bytes is taken in, indeed.
				if f == nothing && (l[i] == wire.Put(cs(i)) || l[i] == wire.Put(info(i))) {
					t.Fatalf("Take(%d, %q) = %v", n, l, hubs[j])
				}
			}
		}
		both, e := Both(hubs[0], hubs[1])
		if e != api.OK || len(both) != n {
			t.Fatalf("Both(%v, %v) = %v, %d", hubs[0], hubs[1], both, e)
		}
		for i, f := range both {
			if f == nothing {
				continue
			}
			taken++
			if f != cs(i) && f != info(i) {
				t.Fatalf("the port %d takes in %v", i, f)
			}
		}
	}
	if taken == 0 {
		t.Fatal("nothing was taken in at all")
	}
}
