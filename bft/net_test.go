package bft_test

import (
	"bytes"
	"math/rand"
	"slices"
	"testing"

	"sortition/api"
	"sortition/bft"
	"sortition/pool"
)

// net are three who follow the rules, and a fourth one who does not; what is said is lost, late, or heard twice.
type net struct {
	r      *rand.Rand
	nodes  []*bft.Node
	said   []api.Msg
	timers [][]api.Timer
	blocks [][][]byte
	voted  map[[4]int]api.Digest
}

func newNet(t *testing.T, r *rand.Rand) *net {
	x := &net{r: r, timers: make([][]api.Timer, 3), blocks: make([][][]byte, 3), voted: map[[4]int]api.Digest{}}
	for who := range 3 {
		x.nodes = append(x.nodes, four(t, who))
		x.nodes[who].Submit([]byte{byte(who), 1})
		x.told(t, who, x.nodes[who].Start())
	}
	return x
}

// told lays by what a node told, which never votes twice.
func (x *net) told(t *testing.T, who int, out bft.Out) {
	t.Helper()
	for _, m := range out.Msgs {
		key := [4]int{who, int(m.Height), m.Vote.Round, m.Vote.Kind}
		if _, ok := x.voted[key]; ok || m.Vote.From != who {
			t.Fatal("it voted twice, or for another one", key)
		}
		x.voted[key] = m.Vote.Value
	}
	x.said = append(x.said, out.Msgs...)
	x.timers[who] = append(x.timers[who], out.Timers...)
	x.blocks[who] = append(x.blocks[who], out.Blocks...)
}

// lie says something for the one who does not follow the rules.
func (x *net) lie() {
	n := x.nodes[x.r.Intn(3)]
	b, _ := pool.Pack(n.Height(), [][]byte{{byte(x.r.Intn(5)), 9}})
	m := api.Msg{Height: n.Height(), Vote: api.Vote{Kind: 1 + x.r.Intn(3), Round: x.r.Intn(3), From: 3, Value: pool.Name(b), Valid: -1}}
	if len(x.said) > 0 && x.r.Intn(2) == 0 {
		m.Vote.Value = x.said[x.r.Intn(len(x.said))].Vote.Value
	}
	if m.Vote.Kind == 1 {
		m.Vote.Value, m.Block = pool.Name(b), b
		m.Vote.Valid = x.r.Intn(m.Vote.Round+1) - 1
	}
	x.said = append(x.said, m)
}

// late is one of the last of a list, mostly.
func late(r *rand.Rand, n int) int {
	if r.Intn(4) == 0 {
		return r.Intn(n)
	}
	return max(0, n-1-r.Intn(12))
}

func (x *net) step(t *testing.T) {
	who := x.r.Intn(3)
	n := x.nodes[who]
	switch k := x.r.Intn(25); {
	case k == 0:
		x.lie()
	case k < 4 && len(x.timers[who]) > 0:
		x.told(t, who, n.Timeout(x.timers[who][late(x.r, len(x.timers[who]))]))
	case k == 5:
		n.Submit([]byte{byte(x.r.Intn(100)), byte(who)})
	case len(x.said) > 0:
		before := n.Height()
		out, e := n.Hear(x.said[late(x.r, len(x.said))])
		if e != api.OK && (n.Height() != before || !same(out, bft.Out{})) {
			t.Fatal("something with an error", e)
		}
		x.told(t, who, out)
	}
}

// TestFollows: one's log is the beginning of the other one's, and is what was told.
func TestFollows(t *testing.T) {
	r := rand.New(rand.NewSource(27))
	height := uint64(0)
	for range 120 {
		x := newNet(t, r)
		for range 1500 {
			x.step(t)
		}
		for who, n := range x.nodes {
			if !slices.EqualFunc(n.Log(), x.blocks[who], bytes.Equal) {
				t.Fatal("what was told is another log", who)
			}
			height += n.Height()
			seen := map[string]bool{}
			for k, b := range n.Log() {
				h, txs, e := pool.Unpack(b)
				if h != uint64(k) || e != api.OK {
					t.Fatal("height", k, h, e)
				}
				for _, tx := range txs {
					if seen[string(tx)] {
						t.Fatal("decided twice", tx)
					}
					seen[string(tx)] = true
				}
			}
			for _, other := range x.nodes[:who] {
				a, b := n.Log(), other.Log()
				least := min(len(a), len(b))
				if !slices.EqualFunc(a[:least], b[:least], bytes.Equal) {
					t.Fatal("two logs", who)
				}
			}
		}
	}
	if height < 360 {
		t.Error("seldom decided", height)
	}
}
