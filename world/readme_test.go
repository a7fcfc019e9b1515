package world_test

import (
	"testing"

	"sortition/api"
	"sortition/draw"
	"sortition/group"
	"sortition/limb"
	"sortition/node"
	"sortition/sample"
	"sortition/world"
)

// TestReadme does what README.md shows.
func TestReadme(t *testing.T) {
	g, _ := group.New(sample.Small())
	c := api.Config{T: 0, Slots: 1, Deal: 2, Ack: 2, Open: 2, Reveal: 2, Penalty: 2}
	w, _ := world.New(g, c, []uint64{9}, []uint64{5}, 1, api.Digest{})
	w.Do(world.Op{Do: 1, In: node.Input{Kind: 6, Coeffs: []api.Nat{{3}}}})
	w.Do(world.Op{Do: 1, In: node.Input{Kind: 1}})
	for range 20 {
		if len(w.Done(0)) > 0 {
			break
		}
		w.Do(world.Op{Do: 3, K: len(w.Timers(0)) - 1})
	}
	if seed := w.Node(0).Beacon().Seed(); seed != draw.Seed(0, api.Digest{}, limb.Small(3), []int{0}) || len(w.Done(0)) != 1 {
		t.Error(seed, w.Done(0))
	}
}
