package view_test

import (
	"math/rand"
	"slices"
	"testing"

	"lockgate/api"
	"lockgate/view"
)

// checkFollows holds P16.3 of a right chain, and what its calls say of one another.
func checkFollows(t *testing.T, l []api.Member) {
	t.Helper()
	checkRight(t, l, true)
	head, ok := view.Head(l)
	checkFound(t, "the head of "+toldAll(l), head, ok, l[0], true)
	checkAhead(t, l, head, member(0, 0), false)
	for _, m := range l {
		if behind, ok := view.Behind(l, m); ok {
			checkAhead(t, l, behind, m, true)
		}
		if ahead, ok := view.Ahead(l, m); ok {
			checkBehind(t, l, ahead, m, true)
		} else if m != head {
			t.Fatalf("none is ahead of %s, not the head of %s", told(m), toldAll(l))
		}
		checkIs(t, l, m.Node, m.Boot, m, true)
		checkIs(t, l, m.Node, m.Boot+1, member(m.Node, m.Boot+1), false)
	}
}

// walk goes from the member on, as the call tells, for as long as there is a next one.
func walk(t *testing.T, l []api.Member, from api.Member, next func(l []api.Member, m api.Member) (api.Member, bool)) []api.Member {
	t.Helper()
	way := []api.Member{from}
	for {
		m, ok := next(l, way[len(way)-1])
		if !ok {
			return way
		}
		if way = append(way, m); len(way) > len(l) {
			t.Fatalf("no end: %s, of %s", toldAll(way), toldAll(l))
		}
	}
}

// checkWalks goes through all of a right chain, from the head and back.
func checkWalks(t *testing.T, l []api.Member) {
	t.Helper()
	head, _ := view.Head(l)
	if way := walk(t, l, head, view.Behind); !slices.Equal(way, l) {
		t.Fatalf("from the head: %s, of %s", toldAll(way), toldAll(l))
	}
	back := slices.Clone(l)
	slices.Reverse(back)
	if way := walk(t, l, back[0], view.Ahead); !slices.Equal(way, back) {
		t.Fatalf("from the end: %s, of %s", toldAll(way), toldAll(l))
	}
}

// P16.3: all small lists that are right chains.
func TestFollowsSmall(t *testing.T) {
	rights := 0
	lists(5, func(l []api.Member) {
		if rightBy(l) {
			rights++
			checkFollows(t, l)
			checkWalks(t, l)
		}
	})
	// Of three nodes of two, two and one starts: 5 alone, 16 in twos, 24 in threes.
	if rights != 5+16+24 {
		t.Fatalf("%d right chains", rights)
	}
}

// P16.3: all orders of up to seven nodes.
func TestFollowsOrders(t *testing.T) {
	for n := 1; n <= 7; n++ {
		orders(n, func(l []api.Member) {
			checkFollows(t, l)
			checkWalks(t, l)
		})
	}
}

// P16.3: long random chains, of any nodes at any starts.
func TestFollowsRandom(t *testing.T) {
	r := rand.New(rand.NewSource(16))
	for range 500 {
		n := 1 + r.Intn(16)
		var l []api.Member
		for len(l) < n {
			if m := someMember(r); countNode(l, m.Node) == 0 {
				l = append(l, m)
			}
		}
		checkFollows(t, l)
		checkWalks(t, l)
		twice := append(slices.Clone(l), member(l[r.Intn(len(l))].Node, r.Intn(9)))
		checkRight(t, twice, false)
	}
}

// someMember is of a small node at a small start more often than of any.
func someMember(r *rand.Rand) api.Member {
	if r.Intn(4) == 0 {
		return member(int(r.Uint64()), int(r.Uint64()))
	}
	return member(r.Intn(20), r.Intn(4))
}
