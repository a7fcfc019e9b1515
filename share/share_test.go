package share_test

import (
	"math"
	"math/rand"
	"slices"
	"testing"

	"sortition/api"
	"sortition/group"
	"sortition/limb"
	"sortition/modq"
	"sortition/sample"
	"sortition/share"
)

const top = math.MaxUint64

func small(n uint64) api.Nat { return limb.Small(n) }

func smalls(l ...uint64) []api.Nat {
	var out []api.Nat
	for _, n := range l {
		out = append(out, small(n))
	}
	return out
}

func made(t *testing.T, p api.Params, l []api.Proof) *group.Group {
	t.Helper()
	g, e := group.New(p, l)
	if e != api.OK {
		t.Fatal(e)
	}
	return g
}

func little(t *testing.T) *group.Group {
	p, l := sample.Small()
	return made(t, p, l)
}

func large(t *testing.T) *group.Group {
	p, l := sample.Large()
	return made(t, p, l)
}

func chances(r *rand.Rand, n int) []api.Nat {
	l := make([]api.Nat, n)
	for i := range l {
		l[i] = api.Nat{r.Uint64(), r.Uint64(), r.Uint64(), r.Uint64()}
	}
	return l
}

func piece(slot int, n uint64) api.Piece { return api.Piece{Slot: slot, Share: small(n)} }

func TestValues(t *testing.T) {
	r := rand.New(rand.NewSource(14))
	for _, g := range []*group.Group{little(t), large(t)} {
		for n := range 6 {
			coeffs := chances(r, n)
			for _, slot := range []int{0, 1, 2, 9, 10, 11, 39, 40, 1000, math.MaxInt} {
				if got := share.Value(g, coeffs, slot); got != modq.Eval(g.Q(), coeffs, small(uint64(slot)+1)) {
					t.Error("Value", n, slot, got)
				}
			}
			for _, slot := range []int{-1, -2, math.MinInt} {
				if got := share.Value(g, coeffs, slot); got != share.Value(g, coeffs, 0) {
					t.Error("below 0", n, slot, got)
				}
			}
		}
	}
	g := little(t)
	if share.Value(g, smalls(3, 2), 0) != small(5) || share.Value(g, smalls(3, 2), 2) != small(9) || share.Value(g, smalls(3, 2), 10) != small(3) || share.Value(g, nil, 3) != small(0) {
		t.Error("3 + 2 x")
	}
}

func TestCommits(t *testing.T) {
	r := rand.New(rand.NewSource(15))
	for _, g := range []*group.Group{little(t), large(t)} {
		for _, n := range []int{0, 1, 2, 25} {
			coeffs := chances(r, n)
			before := slices.Clone(coeffs)
			commits := share.Commit(g, coeffs)
			if len(commits) != n || !slices.Equal(coeffs, before) {
				t.Fatal(n, commits)
			}
			for i, c := range commits {
				if c != g.Base(coeffs[i]) {
					t.Error(n, i, c)
				}
			}
		}
	}
}

func TestDeals(t *testing.T) {
	commits, shares, e := share.Deal(little(t), smalls(3, 2), 3)
	if !slices.Equal(commits, smalls(18, 16)) || !slices.Equal(shares, smalls(5, 7, 9)) || e != api.OK {
		t.Error(commits, shares, e)
	}
	r := rand.New(rand.NewSource(16))
	for _, c := range []struct {
		g         *group.Group
		coeffs, n int
		e         api.Errno
	}{
		{little(t), 1, 1, api.OK},
		{little(t), 20, 10, api.OK},
		{little(t), 1, 11, api.ErrArg}, // not below Q
		{little(t), 1, 12, api.ErrArg},
		{little(t), 0, 1, api.ErrArg},
		{little(t), 21, 1, api.ErrArg},
		{little(t), 1, 0, api.ErrArg},
		{large(t), 2, 0, api.ErrArg},
		{large(t), 2, -1, api.ErrArg},
		{large(t), 2, math.MinInt, api.ErrArg},
		{large(t), 2, math.MaxInt, api.ErrArg},
		{large(t), 2, 40, api.OK},
		{large(t), 2, 41, api.ErrArg},
		{large(t), 20, 5, api.OK},
		{large(t), 21, 5, api.ErrArg},
		{large(t), 0, 5, api.ErrArg},
	} {
		coeffs := chances(r, c.coeffs)
		before := slices.Clone(coeffs)
		commits, shares, e := share.Deal(c.g, coeffs, c.n)
		if e != c.e || !slices.Equal(coeffs, before) {
			t.Error(c.coeffs, c.n, e)
		}
		if e != api.OK {
			if len(commits) != 0 || len(shares) != 0 {
				t.Error("something with an error", c.coeffs, c.n)
			}
			continue
		}
		if !slices.Equal(commits, share.Commit(c.g, coeffs)) || len(shares) != c.n {
			t.Error("commits", c.coeffs, c.n)
		}
		for slot, s := range shares {
			if s != share.Value(c.g, coeffs, slot) {
				t.Error("share", c.coeffs, c.n, slot)
			}
		}
	}
}

func TestRight(t *testing.T) {
	g := little(t)
	commits := smalls(18, 16) // of 3 + 2 x
	for i, c := range []struct {
		commits []api.Nat
		p       api.Piece
		e       api.Errno
	}{
		{commits, piece(0, 5), api.OK},
		{commits, piece(1, 7), api.OK},
		{commits, piece(1, 8), api.ErrShare},
		{commits, piece(9, 1), api.OK},
		{commits, piece(10, 3), api.ErrArg}, // its place is Q
		{commits, piece(11, 5), api.ErrArg},
		{commits, piece(-1, 5), api.ErrArg},
		{commits, piece(40, 5), api.ErrArg},
		{commits, piece(math.MaxInt, 5), api.ErrArg},
		{commits, piece(math.MinInt, 5), api.ErrArg},
		{commits, piece(1, 18), api.ErrShare}, // 7, and Q
		{commits, piece(1, 11), api.ErrShare},
		{smalls(18, 5), piece(1, 7), api.ErrMember},
		{smalls(5, 16), piece(1, 7), api.ErrMember},
		{smalls(18, 0), piece(1, 7), api.ErrMember},
		{smalls(18, 16+23), piece(1, 7), api.ErrMember},
		{smalls(18, 5), piece(1, 18), api.ErrMember}, // ahead of ErrShare
		{smalls(18, 5), piece(10, 7), api.ErrArg},    // behind ErrArg
		{nil, piece(0, 0), api.ErrArg},
		{smalls(1), piece(3, 0), api.OK},
		{slices.Repeat(smalls(1), 20), piece(3, 0), api.OK},
		{slices.Repeat(smalls(1), 20), piece(3, 1), api.ErrShare},
		{slices.Repeat(smalls(1), 21), piece(3, 0), api.ErrArg},
		{slices.Repeat(smalls(5), 21), piece(3, 0), api.ErrArg},
	} {
		before := slices.Clone(c.commits)
		if e := share.Right(g, c.commits, c.p); e != c.e || !slices.Equal(c.commits, before) {
			t.Error(i, e)
		}
	}
	if e := share.Right(g, commits, api.Piece{Slot: 1, Share: api.Nat{7, 1}}); e != api.ErrShare {
		t.Error(e)
	}
}

func TestRightOfAll(t *testing.T) {
	g := little(t)
	for a := range uint64(11) {
		for b := range uint64(11) {
			coeffs := smalls(a, b, 4)
			commits := share.Commit(g, coeffs)
			for slot := range 10 {
				for n := range uint64(12) {
					right := small(n) == share.Value(g, coeffs, slot)
					if e := share.Right(g, commits, piece(slot, n)); (e == api.OK) != right || !right && e != api.ErrShare {
						t.Fatal(a, b, slot, n, e)
					}
				}
			}
		}
	}
}

func TestRightInLarge(t *testing.T) {
	g := large(t)
	coeffs := chances(rand.New(rand.NewSource(17)), 5)
	commits, shares, _ := share.Deal(g, coeffs, 40)
	for slot := range shares {
		if e := share.Right(g, commits, api.Piece{Slot: slot, Share: shares[slot]}); e != api.OK {
			t.Error(slot, e)
		}
		if e := share.Right(g, commits, api.Piece{Slot: slot, Share: shares[(slot+1)%40]}); e != api.ErrShare {
			t.Error(slot, e)
		}
	}
	if e := share.Right(g, commits, api.Piece{Slot: 40, Share: share.Value(g, coeffs, 40)}); e != api.ErrArg {
		t.Error(e)
	}
	over, _ := limb.Add(shares[0], g.Params().Q)
	if e := share.Right(g, commits, api.Piece{Slot: 0, Share: over}); e != api.ErrShare {
		t.Error(e)
	}
}

func TestOpens(t *testing.T) {
	g := little(t)
	for n := range uint64(30) {
		if share.Opens(g, smalls(18, 16), small(n)) != (n == 3) {
			t.Error(n)
		}
		if share.Opens(g, nil, small(n)) {
			t.Error("no commits", n)
		}
		if share.Opens(g, smalls(18), small(n)) != (n == 3) || share.Opens(g, append(smalls(18), slices.Repeat(smalls(5), 50)...), small(n)) != (n == 3) {
			t.Error("one commit", n)
		}
	}
	if share.Opens(g, smalls(0), small(3)) || share.Opens(g, smalls(1), small(11)) || !share.Opens(g, smalls(1), small(0)) {
		t.Error("ends")
	}
	if share.Opens(g, smalls(18), api.Nat{3, 0, 0, 1}) {
		t.Error("wide")
	}
}

func TestRecovers(t *testing.T) {
	g := little(t)
	commits := smalls(18, 16)
	for i, c := range []struct {
		commits []api.Nat
		l       []api.Piece
		want    uint64
		e       api.Errno
	}{
		{commits, []api.Piece{piece(0, 5), piece(2, 9)}, 3, api.OK},
		{commits, []api.Piece{piece(2, 9), piece(0, 5)}, 3, api.OK},
		{commits, []api.Piece{piece(2, 9), piece(0, 5), piece(1, 7)}, 3, api.OK},
		{commits, []api.Piece{piece(2, 9)}, 0, api.ErrShort},
		{commits, nil, 0, api.ErrShort},
		{commits, []api.Piece{piece(2, 9), piece(2, 9)}, 0, api.ErrSame},
		{commits, []api.Piece{piece(2, 9), piece(0, 5), piece(2, 9)}, 0, api.ErrSame},
		{commits, []api.Piece{piece(2, 9), piece(2, 8)}, 0, api.ErrShare},
		{commits, []api.Piece{piece(2, 9), piece(1, 8)}, 0, api.ErrShare},
		{commits, []api.Piece{piece(2, 8)}, 0, api.ErrShare}, // ahead of ErrShort
		{commits, []api.Piece{piece(2, 8), piece(10, 8)}, 0, api.ErrShare},
		{commits, []api.Piece{piece(10, 8), piece(2, 8)}, 0, api.ErrArg},
		{commits, []api.Piece{piece(2, 9), piece(2, 9), piece(-1, 9)}, 0, api.ErrArg},
		{smalls(18, 5), []api.Piece{piece(0, 5), piece(0, 5)}, 0, api.ErrMember},
		{smalls(18, 5), nil, 0, api.ErrShort},
		{nil, []api.Piece{piece(0, 0)}, 0, api.ErrArg},
		{nil, nil, 0, api.OK}, // no pieces, and no more commits
		{smalls(18), []api.Piece{piece(4, 3)}, 3, api.OK},
		{smalls(18, 16, 1), []api.Piece{piece(0, 5), piece(2, 9)}, 0, api.ErrShort},
		{smalls(18, 16, 1), []api.Piece{piece(2, 9), piece(2, 9)}, 0, api.ErrSame}, // ahead of ErrShort
	} {
		before := slices.Clone(c.l)
		got, e := share.Recover(g, c.commits, c.l)
		if got != small(c.want) || e != c.e || !slices.Equal(c.l, before) {
			t.Error(i, got, e)
		}
	}
}

// TestFollows: any right shares, as many as there are coefficients, or more, recover the secret, and it opens.
func TestFollows(t *testing.T) {
	r := rand.New(rand.NewSource(18))
	g := large(t)
	for n := 1; n <= 5; n++ {
		coeffs := chances(r, n)
		commits, shares, e := share.Deal(g, coeffs, 9)
		if e != api.OK {
			t.Fatal(e)
		}
		secret := modq.Sum(g.Q(), coeffs[0])
		order := r.Perm(9)
		var l []api.Piece
		for k, slot := range order {
			l = append(l, api.Piece{Slot: slot, Share: shares[slot]})
			got, e := share.Recover(g, commits, l)
			if k+1 < n {
				if got != (api.Nat{}) || e != api.ErrShort {
					t.Fatal("too few", n, k, got, e)
				}
			} else if got != secret || e != api.OK || !share.Opens(g, commits, got) {
				t.Fatal(n, k, got, e)
			}
		}
		if share.Opens(g, commits, shares[0]) && n > 1 || share.Opens(g, commits, api.Nat{top, top, top, top}) {
			t.Error("something else opens")
		}
	}
}
