package chase_test

import (
	"bytes"
	"math"
	"math/rand"
	"slices"
	"testing"

	"sortition/api"
	"sortition/chase"
	"sortition/pool"
	"sortition/votes"
)

const top = math.MaxUint64

func block(t *testing.T, height uint64, txs ...string) []byte {
	t.Helper()
	var l [][]byte
	for _, s := range txs {
		l = append(l, []byte(s))
	}
	b, e := pool.Pack(height, l)
	if e != api.OK {
		t.Fatal(e)
	}
	return b
}

func made(t *testing.T, stakes ...uint64) *chase.Chase {
	t.Helper()
	c, e := chase.New(stakes)
	if e != api.OK || c == nil {
		t.Fatal(e)
	}
	return c
}

func claim(height uint64, who int, b []byte) chase.Claim {
	return chase.Claim{Height: height, Who: who, Block: b}
}

func same(a, b [][]byte) bool { return slices.EqualFunc(a, b, bytes.Equal) }

func believes(t *testing.T, c *chase.Chase, height uint64, want []byte) {
	t.Helper()
	if b, ok := c.Believed(height); !bytes.Equal(b, want) || ok != (want != nil) {
		t.Errorf("of %d: %v, %v; want %v", height, b, ok, want)
	}
}

func TestNew(t *testing.T) {
	for i, x := range []struct {
		stakes []uint64
		e      api.Errno
	}{
		{nil, api.ErrLong},
		{[]uint64{0}, api.OK},
		{slices.Repeat([]uint64{1}, 40), api.OK},
		{slices.Repeat([]uint64{1}, 41), api.ErrLong},
		{[]uint64{1 << 63}, api.ErrOver},
		{[]uint64{top, 1}, api.ErrOver},
	} {
		c, e := chase.New(x.stakes)
		if e != x.e || (c == nil) != (e != api.OK) {
			t.Error(i, c, e)
		}
		if c == nil {
			continue
		}
		believes(t, c, 0, nil)
		if len(c.Heights()) != 0 || len(c.Run(0)) != 0 || c.Forget(top) != 0 {
			t.Error("claims in a new one", i)
		}
	}
}

func TestExample(t *testing.T) {
	c := made(t, 1, 1, 1, 1)
	b, other := block(t, 0, "b"), block(t, 0, "c")
	if e := c.Hear(claim(0, 0, b)); e != api.OK {
		t.Error(e)
	}
	believes(t, c, 0, nil)
	if e := c.Hear(claim(0, 1, b)); e != api.OK {
		t.Error(e)
	}
	believes(t, c, 0, b)
	if e := c.Hear(claim(0, 0, other)); e != api.ErrFull {
		t.Error(e)
	}
	if l := c.Run(0); !same(l, [][]byte{b}) {
		t.Error(l)
	}
	if n := c.Forget(1); n != 1 || len(c.Heights()) != 0 {
		t.Error(n, c.Heights())
	}
	believes(t, c, 0, nil)
}

func TestHears(t *testing.T) {
	c := made(t, 3, 0, 2)
	b := block(t, 7, "b")
	for i, x := range []struct {
		claim chase.Claim
		e     api.Errno
	}{
		{claim(7, 0, nil), api.ErrShape},
		{claim(7, 0, []byte{9}), api.ErrShape},
		{claim(7, 0, append(bytes.Clone(b), 0)), api.ErrShape},
		{claim(6, 0, b), api.ErrShape},
		{claim(8, 0, b), api.ErrShape},
		{claim(6, 9, b), api.ErrShape},
		{claim(7, -1, b), api.ErrArg},
		{claim(7, 3, b), api.ErrArg},
		{claim(7, math.MinInt, b), api.ErrArg},
		{claim(7, 1, b), api.ErrNone},
	} {
		if e := c.Hear(x.claim); e != x.e || len(c.Heights()) != 0 {
			t.Error(i, e, c.Heights())
		}
	}
	before := bytes.Clone(b)
	if c.Hear(claim(7, 2, b)) != api.OK || c.Hear(claim(7, 2, b)) != api.ErrSame || c.Hear(claim(7, 2, block(t, 7))) != api.ErrFull || !slices.Equal(c.Heights(), []uint64{7}) || !bytes.Equal(b, before) {
		t.Error(c.Heights())
	}
	believes(t, c, 7, b)
}

// TestFull: of twenty heights there are claims at the most, of these more may come.
func TestFull(t *testing.T) {
	c := made(t, 1, 1, 1)
	for height := range uint64(20) {
		if e := c.Hear(claim(height*3, 0, block(t, height*3))); e != api.OK {
			t.Fatal(height, e)
		}
	}
	for i, x := range []struct {
		claim chase.Claim
		e     api.Errno
	}{
		{claim(1, 0, block(t, 1)), api.ErrFull},
		{claim(1, 9, block(t, 1)), api.ErrFull}, // ahead of the votes' error
		{claim(1, 0, block(t, 2)), api.ErrShape},
		{claim(top, 0, block(t, top)), api.ErrFull},
		{claim(3, 0, block(t, 3)), api.ErrSame},
		{claim(3, 1, block(t, 3)), api.OK},
		{claim(57, 2, block(t, 57)), api.OK},
	} {
		if e := c.Hear(x.claim); e != x.e || len(c.Heights()) != 20 {
			t.Error(i, e, c.Heights())
		}
	}
	if n := c.Forget(1); n != 1 || c.Hear(claim(1, 9, block(t, 1))) != api.ErrArg || c.Hear(claim(1, 0, block(t, 1))) != api.OK || c.Hear(claim(2, 0, block(t, 2))) != api.ErrFull {
		t.Error("the place that came free", n)
	}
}

// TestTwoBelieved: of two that more than a third claims the one with the lesser name is believed.
func TestTwoBelieved(t *testing.T) {
	for k := range 40 {
		a, b := block(t, 5, "a"+string(rune('0'+k))), block(t, 5, "b")
		less := a
		x, y := pool.Name(a), pool.Name(b)
		if bytes.Compare(x[:], y[:]) > 0 {
			less = b
		}
		c := made(t, 2, 2, 1)
		c.Hear(claim(5, 0, a))
		c.Hear(claim(5, 1, b))
		believes(t, c, 5, less)
		c = made(t, 2, 1, 2)
		c.Hear(claim(5, 1, a)) // a fifth alone claims it
		c.Hear(claim(5, 0, b))
		believes(t, c, 5, b)
	}
	c := made(t, 1, 1, 1) // a third is not more than one
	c.Hear(claim(5, 0, block(t, 5)))
	believes(t, c, 5, nil)
}

func TestRuns(t *testing.T) {
	c := made(t, 1)
	for _, height := range []uint64{3, 4, 5, 7, top, top - 1, 0, 1} {
		c.Hear(claim(height, 0, block(t, height)))
	}
	blocks := func(l ...uint64) [][]byte {
		var out [][]byte
		for _, height := range l {
			out = append(out, block(t, height))
		}
		return out
	}
	for from, want := range map[uint64][][]byte{0: blocks(0, 1), 1: blocks(1), 2: nil, 3: blocks(3, 4, 5), 5: blocks(5), 6: nil, 7: blocks(7), top: blocks(top, 0, 1), top - 1: blocks(top-1, top, 0, 1), top - 2: nil} {
		if l := c.Run(from); !same(l, want) {
			t.Error(from, l)
		}
	}
	if !slices.Equal(c.Heights(), []uint64{0, 1, 3, 4, 5, 7, top - 1, top}) {
		t.Error(c.Heights())
	}
}

func TestForgets(t *testing.T) {
	c := made(t, 1)
	for _, height := range []uint64{9, 2, 5, top, 0, 7} {
		c.Hear(claim(height, 0, block(t, height)))
	}
	for _, x := range []struct {
		below uint64
		n     int
		left  []uint64
	}{
		{0, 0, []uint64{0, 2, 5, 7, 9, top}},
		{2, 1, []uint64{2, 5, 7, 9, top}},
		{2, 0, []uint64{2, 5, 7, 9, top}},
		{8, 3, []uint64{9, top}},
		{top, 1, []uint64{top}},
		{top, 0, []uint64{top}},
	} {
		if n := c.Forget(x.below); n != x.n || !slices.Equal(c.Heights(), x.left) {
			t.Error(x.below, n, c.Heights())
		}
	}
	if e := c.Hear(claim(5, 0, block(t, 5, "new"))); e != api.OK { // what went is as if it had never been
		t.Error(e)
	}
	believes(t, c, 5, block(t, 5, "new"))
}

func TestAnswers(t *testing.T) {
	var log [][]byte
	for height := range uint64(7) {
		log = append(log, block(t, height))
	}
	for from, want := range map[uint64][]uint64{0: {0, 1, 2, 3}, 1: {1, 2, 3, 4}, 3: {3, 4, 5, 6}, 4: {4, 5, 6}, 6: {6}, 7: nil, 8: nil, top: nil, 1 << 63: nil} {
		l := chase.Answer(log, 5, from)
		if len(l) != len(want) {
			t.Error(from, l)
			continue
		}
		for i, x := range l {
			if x.Height != want[i] || x.Who != 5 || !bytes.Equal(x.Block, log[x.Height]) {
				t.Error(from, i, x)
			}
		}
	}
	if l := chase.Answer(nil, 0, 0); len(l) != 0 {
		t.Error(l)
	}
	if l := chase.Answer([][]byte{{1}, nil}, -7, 0); len(l) != 2 || l[1].Who != -7 || l[1].Height != 1 || !bytes.Equal(l[0].Block, []byte{1}) {
		t.Error(l)
	}
}

// TestFollows: nothing is believed but what somebody else claims, if those who lie have less than a third.
func TestFollows(t *testing.T) {
	r := rand.New(rand.NewSource(28))
	believed := 0
	for range 300 {
		stakes := make([]uint64, 4+r.Intn(4))
		all := uint64(0)
		for who := range stakes {
			stakes[who] = uint64(r.Intn(6))
			all += stakes[who]
		}
		lies, stake := map[int]bool{}, uint64(0)
		for _, who := range r.Perm(len(stakes)) {
			if 3*(stake+stakes[who]) < all {
				lies[who] = true
				stake += stakes[who]
			}
		}
		c := made(t, stakes...)
		part := map[uint64]uint64{}
		for range 30 {
			who, height := r.Intn(len(stakes)), uint64(r.Intn(3))
			b := block(t, height, "right")
			if lies[who] {
				b = block(t, height, "wrong")
			}
			if c.Hear(claim(height, who, b)) == api.OK && !lies[who] {
				part[height] += stakes[who]
			}
		}
		for height := range uint64(4) {
			if votes.More(part[height], all) {
				believes(t, c, height, block(t, height, "right"))
				believed++
			} else {
				believes(t, c, height, nil)
			}
		}
	}
	if believed < 100 {
		t.Error(believed)
	}
}
