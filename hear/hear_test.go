package hear

import (
	"math"
	"math/rand"
	"testing"

	"daybreak/api"
	"daybreak/wire"
)

// two is what stands on both channels.
type two = [2]api.Frame

func cs(id int) api.Frame { return api.Frame{Kind: api.Cs, Id: id} }

func info(id int) api.Frame { return api.Frame{Kind: api.Info, Id: id} }

// nothing is a channel on which nothing is heard.
var nothing = api.Frame{Kind: 0, Id: 0}

// Bytes that are written out, so that they don't hang on how wire puts them. The last three have a right sum, but are no frame's that may be sent.
const (
	csOne     = "\xd8\x01\x01\x12\xc7\xbc\x4d"
	infoTwo   = "\xd8\x02\x02\xa0\xe3\xbe\x34"
	csEight   = "\xd8\x01\x08\x6b\x1b\x04\xe9"
	kindZero  = "\xd8\x00\x00\x7c\xdb\xbd\x9a"
	kindThree = "\xd8\x03\x00\x57\xf6\xee\x59"
)

// P7.1: what is heard of bytes, by such as are written out.
func TestOfKnown(t *testing.T) {
	cases := []struct {
		n    int
		a, b string
		want two
	}{
		{3, "", "", two{}},
		{3, csOne, infoTwo, two{cs(1), info(2)}},
		{8, infoTwo, csOne, two{info(2), cs(1)}},
		{8, csEight, csOne, two{nothing, cs(1)}},
		{8, kindZero, kindThree, two{}},
		{4, "noise", wire.Put(info(2)), two{nothing, info(2)}},
		{4, wire.Put(info(2)), "noise", two{info(2), nothing}},
		{4, wire.Put(cs(1)), wire.Put(info(3)), two{cs(1), info(3)}},
		{3, wire.Put(cs(1)), wire.Put(info(3)), two{cs(1), nothing}},
		{3, wire.Put(cs(3)), wire.Put(info(2)), two{nothing, info(2)}},
		{3, wire.Put(cs(2)), wire.Put(cs(2)), two{cs(2), cs(2)}},
		{8, wire.Put(cs(7)), wire.Put(info(7)), two{cs(7), info(7)}},
		{7, wire.Put(cs(7)), wire.Put(info(7)), two{}},
		{7, wire.Put(cs(6)), wire.Put(info(6)), two{cs(6), info(6)}},
		{3, wire.Put(info(0)), wire.Put(cs(0)), two{info(0), cs(0)}},
		{8, wire.Put(api.Frame{Kind: api.Noise, Id: 5}), "", two{}},
		{8, "\x00", "\x00", two{}},
		{8, wire.Put(cs(1)) + "\x00", "\x00" + wire.Put(cs(1)), two{}},
		{8, wire.Put(cs(1))[:6], wire.Put(cs(1)) + wire.Put(cs(1)), two{}},
	}
	for _, c := range cases {
		if h, e := Of(c.n, c.a, c.b); h != c.want || e != api.OK {
			t.Errorf("Of(%d, %q, %q) = %v, %d, not %v, 0", c.n, c.a, c.b, h, e, c.want)
		}
	}
}

// P7.1: each frame on each channel, of each number of nodes: it is heard if its Id is below that.
func TestOfEachFrame(t *testing.T) {
	for n := 3; n <= 8; n++ {
		for id := 0; id <= 7; id++ {
			for _, f := range []api.Frame{cs(id), info(id)} {
				want := nothing
				if id < n {
					want = f
				}
				if h, e := Of(n, wire.Put(f), ""); h != (two{want, nothing}) || e != api.OK {
					t.Errorf("%d nodes, %v on the first channel: %v, %d", n, f, h, e)
				}
				if h, e := Of(n, "", wire.Put(f)); h != (two{nothing, want}) || e != api.OK {
					t.Errorf("%d nodes, %v on the second channel: %v, %d", n, f, h, e)
				}
			}
		}
	}
}

// P7.1: what is no number of nodes is ErrArg, and nothing is beside it.
func TestOfWrong(t *testing.T) {
	for _, n := range []int{math.MinInt, math.MinInt + 1, -1 << 32, -8, -3, -1, 0, 1, 2, 9, 10, 255, 259, 1<<32 + 4, math.MaxInt - 1, math.MaxInt} {
		for _, s := range []string{"", "noise", wire.Put(cs(0)), wire.Put(info(1))} {
			if h, e := Of(n, s, s); h != (two{}) || e != api.ErrArg {
				t.Errorf("Of(%d, %q, %q) = %v, %d, not nothing and 1", n, s, s, h, e)
			}
		}
	}
}

// P7.1: the four questions, by answers that are written out.
func TestAsked(t *testing.T) {
	cases := []struct {
		h      two
		x      int
		info   int
		isInfo bool
		cs     int
		isCs   bool
		wrong  bool
		match  bool
	}{
		{two{}, 0, 0, false, 0, false, false, false},
		{two{cs(1), info(2)}, 2, 2, true, 1, true, false, true},
		{two{cs(1), info(2)}, 1, 2, true, 0, false, true, false},
		{two{info(2), cs(1)}, 0, 2, true, 1, true, true, false},
		{two{cs(1), cs(2)}, 1, 0, false, 2, true, false, false},
		{two{cs(1), cs(2)}, 2, 0, false, 1, true, false, false},
		{two{cs(1), cs(2)}, 0, 0, false, 1, true, false, false},
		{two{cs(1), cs(1)}, 1, 0, false, 0, false, false, false},
		{two{cs(0), nothing}, 0, 0, false, 0, false, false, false},
		{two{cs(0), nothing}, 3, 0, false, 0, true, false, false},
		{two{nothing, cs(0)}, 3, 0, false, 0, true, false, false},
		{two{info(2), info(0)}, 2, 2, true, 0, false, true, true},
		{two{info(2), info(0)}, 0, 2, true, 0, false, true, true},
		{two{info(2), info(0)}, 1, 2, true, 0, false, true, false},
		{two{info(0), info(2)}, 2, 0, true, 0, false, true, true},
		{two{info(3), info(3)}, 3, 3, true, 0, false, false, true},
		{two{nothing, info(0)}, 0, 0, true, 0, false, false, true},
		{two{nothing, info(0)}, 5, 0, true, 0, false, true, false},
		// Frames that nobody hears, but that may be handed in: their kind is what counts.
		{two{{Kind: api.None, Id: 5}, {Kind: api.Noise, Id: 6}}, 5, 0, false, 0, false, false, false},
		{two{{Kind: api.Noise, Id: 2}, info(2)}, 2, 2, true, 0, false, false, true},
		{two{{Kind: -1, Id: 1}, {Kind: 4, Id: 1}}, 1, 0, false, 0, false, false, false},
		{two{info(-1), cs(-1)}, -1, -1, true, 0, false, false, true},
		{two{info(math.MinInt), cs(math.MaxInt)}, math.MinInt, math.MinInt, true, math.MaxInt, true, false, true},
		{two{info(1 << 32), cs(1 << 32)}, 0, 1 << 32, true, 1 << 32, true, true, false},
	}
	for _, c := range cases {
		if i, is := Info(c.h); i != c.info || is != c.isInfo {
			t.Errorf("Info(%v) = %d, %v", c.h, i, is)
		}
		if i, is := Other(c.h, c.x); i != c.cs || is != c.isCs {
			t.Errorf("Other(%v, %d) = %d, %v", c.h, c.x, i, is)
		}
		if is := Wrong(c.h, c.x); is != c.wrong {
			t.Errorf("Wrong(%v, %d) = %v", c.h, c.x, is)
		}
		if is := Match(c.h, c.x); is != c.match {
			t.Errorf("Match(%v, %d) = %v", c.h, c.x, is)
		}
	}
}

// P7.1: the four questions of any two frames and any number, against the chapter's words asked of each channel in turn.
func TestAskedOfAny(t *testing.T) {
	ids := []int{math.MinInt, -1 << 32, -1, 0, 1, 2, 7, 8, 1 << 32, math.MaxInt}
	var frames []api.Frame
	for kind := -1; kind <= 4; kind++ {
		for _, id := range ids {
			frames = append(frames, api.Frame{Kind: kind, Id: id})
		}
	}
	for _, a := range frames {
		for _, b := range frames {
			for _, x := range ids {
				checkAsked(t, a, b, x)
			}
		}
	}
}

// checkAsked holds the four questions about a and b against the words of the chapter.
func checkAsked(t *testing.T, a, b api.Frame, x int) {
	h := two{a, b}
	id, found := 0, false
	if a.Kind == 2 {
		id, found = a.Id, true
	} else if b.Kind == 2 {
		id, found = b.Id, true
	}
	if i, is := Info(h); i != id || is != found {
		t.Fatalf("Info(%v) = %d, %v, not %d, %v", h, i, is, id, found)
	}
	id, found = 0, false
	if a.Kind == 1 && a.Id != x {
		id, found = a.Id, true
	} else if b.Kind == 1 && b.Id != x {
		id, found = b.Id, true
	}
	if i, is := Other(h, x); i != id || is != found {
		t.Fatalf("Other(%v, %d) = %d, %v, not %d, %v", h, x, i, is, id, found)
	}
	if is, want := Wrong(h, x), a.Kind == 2 && a.Id != x || b.Kind == 2 && b.Id != x; is != want {
		t.Fatalf("Wrong(%v, %d) = %v", h, x, is)
	}
	if is, want := Match(h, x), a.Kind == 2 && a.Id == x || b.Kind == 2 && b.Id == x; is != want {
		t.Fatalf("Match(%v, %d) = %v", h, x, is)
	}
}

// anyBytes is bytes of any kind: often those of a frame, or nearly so.
func anyBytes(r *rand.Rand) string {
	b := []byte(wire.Put(api.Frame{Kind: r.Intn(5), Id: r.Intn(10)}))
	switch r.Intn(4) {
	case 0:
		if len(b) > 0 {
			b[r.Intn(len(b))] ^= 1 << r.Intn(8)
		}
	case 1:
		b = make([]byte, r.Intn(10))
		r.Read(b)
	case 2:
		b = append(b, byte(r.Intn(256)))
	}
	return string(b)
}

// P7.2: whatever bytes come, what is heard is nothing, or a frame of a node that there is; and it is the one whose bytes came.
func TestHeardIsOfANode(t *testing.T) {
	r := rand.New(rand.NewSource(7))
	heard := 0
	for range 200000 {
		n := 3 + r.Intn(6)
		s := [2]string{anyBytes(r), anyBytes(r)}
		h, e := Of(n, s[0], s[1])
		if e != api.OK {
			t.Fatalf("Of(%d, %q, %q): error %d", n, s[0], s[1], e)
		}
		for i, f := range h {
			if f == nothing {
				continue
			}
			heard++
			if f.Kind != 1 && f.Kind != 2 || f.Id < 0 || f.Id >= n || wire.Put(f) != s[i] {
				t.Fatalf("Of(%d, %q, %q) = %v", n, s[0], s[1], h)
			}
		}
	}
	if heard == 0 {
		t.Fatal("nothing was heard at all")
	}
}
