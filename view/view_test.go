package view_test

import (
	"math"
	"testing"

	"lockgate/api"
	"lockgate/view"
)

// The chapter's example.
func TestExample(t *testing.T) {
	l := chainOf(2, 1, 3, 1)
	checkBehind(t, l, member(2, 1), member(3, 1), true)
	checkIndex(t, l, member(3, 2), -1)
	checkRight(t, l, true)
}

// P16.1: chains of each length: the least and the greatest, one less and one more.
func TestRightLengths(t *testing.T) {
	checkRight(t, nil, false)
	checkRight(t, []api.Member{}, false)
	checkRight(t, make([]api.Member, 0, 9), false)
	for n := 1; n <= 40; n++ {
		checkRight(t, row(n, 2), n <= 16)
		checkRight(t, row(n, -3), n <= 16)
	}
	checkRight(t, row(16, math.MaxInt-15), true)
	checkRight(t, row(16, math.MinInt), true)
	checkRight(t, row(1<<20, 0), false)
	checkRight(t, make([]api.Member, 1<<20), false)
}

// P16.1: a node that stands twice, at each two places of chains of each length, at the same start and at another one.
func TestRightNodeTwice(t *testing.T) {
	for n := 2; n <= 16; n++ {
		for a := range n {
			for b := range a {
				l := row(n, 2)
				l[a].Node = l[b].Node
				checkRight(t, l, false)
				l[a].Boot = l[b].Boot
				checkRight(t, l, false)
				l[a].Boot++
				checkRight(t, l, false)
			}
		}
	}
}

// P16.1: what isn't a node doesn't matter: starts may be the same, and any numbers; and any number is a node.
func TestRightStarts(t *testing.T) {
	for _, boot := range []int{math.MinInt, -1, 0, 1, 2, 3, math.MaxInt} {
		checkRight(t, chainOf(2, boot), true)
		checkRight(t, chainOf(2, boot, 3, boot, 4, boot), true)
		checkRight(t, chainOf(2, boot, 3, 2), true)
		checkRight(t, chainOf(boot, 1), true)
		checkRight(t, chainOf(boot, 1, 4, 1), true)
		checkRight(t, chainOf(boot, 1, boot, 2), false)
	}
	checkRight(t, make([]api.Member, 1), true)
	checkRight(t, make([]api.Member, 2), false)
}

// P16.1: all lists of up to five of few members, held against the chapter's words as loops.
func TestSmallLists(t *testing.T) {
	lists(5, func(l []api.Member) {
		checkRight(t, l, rightBy(l))
		var head api.Member
		if len(l) > 0 {
			head = l[0]
		}
		checkHead(t, l, head, len(l) > 0)
		for _, m := range asked() {
			checkIndex(t, l, m, indexBy(l, m))
			ahead, there := besideBy(l, m, -1)
			checkAhead(t, l, m, ahead, there)
			behind, there := besideBy(l, m, 1)
			checkBehind(t, l, m, behind, there)
		}
	})
}

// P16.1: is a member that of a node at its start, and in the list? All of them, in all lists of up to three.
func TestIs(t *testing.T) {
	lists(3, func(l []api.Member) {
		for _, m := range asked() {
			for _, x := range asked() {
				checkIs(t, l, x.Node, x.Boot, m, same(x, m) && indexBy(l, m) >= 0)
			}
		}
	})
}

// P16.1: the node and its start each matter, and don't stand for one another; so does each of them when a member of the list has the other.
func TestIsParts(t *testing.T) {
	l := chainOf(2, 5, 5, 2, 3, 5)
	checkIs(t, l, 2, 5, member(2, 5), true)
	checkIs(t, l, 5, 2, member(5, 2), true)
	checkIs(t, l, 5, 2, member(2, 5), false)
	checkIs(t, l, 2, 5, member(5, 2), false)
	checkIs(t, l, 3, 5, member(2, 5), false)
	checkIs(t, l, 2, 4, member(2, 5), false)
	checkIs(t, l, 2, 4, member(2, 4), false)
	checkIs(t, l, 4, 5, member(4, 5), false)
	checkIs(t, nil, 2, 5, member(2, 5), false)
	checkIs(t, nil, 0, 0, member(0, 0), false)
	checkIs(t, make([]api.Member, 1), 0, 0, member(0, 0), true)
}

// P16.1: a member that stands more than once: its first place is its place.
func TestFirstPlace(t *testing.T) {
	l := chainOf(4, 1, 2, 1, 3, 1, 2, 1, 5, 1)
	checkIndex(t, l, member(2, 1), 1)
	checkAhead(t, l, member(2, 1), member(4, 1), true)
	checkBehind(t, l, member(2, 1), member(3, 1), true)
	twice := chainOf(2, 1, 2, 1)
	checkIndex(t, twice, member(2, 1), 0)
	checkAhead(t, twice, member(2, 1), member(0, 0), false)
	checkBehind(t, twice, member(2, 1), member(2, 1), true)
}

// P16.1: the ends: nobody stands ahead of the first one, nor behind the last one, nor beside one that isn't in the list.
func TestEnds(t *testing.T) {
	none := member(0, 0)
	for n := range 20 {
		l := row(n, 2)
		for at, m := range l {
			checkIndex(t, l, m, at)
			if at > 0 {
				checkAhead(t, l, m, l[at-1], true)
				checkBehind(t, l, l[at-1], m, true)
			}
		}
		if n > 0 {
			checkHead(t, l, l[0], true)
			checkAhead(t, l, l[0], none, false)
			checkBehind(t, l, l[n-1], none, false)
		}
		for _, m := range chainOf(1, 1, n+2, 1+n%3, 2, 2, 0, 0, -1, -1) {
			checkIndex(t, l, m, -1)
			checkAhead(t, l, m, none, false)
			checkBehind(t, l, m, none, false)
		}
	}
	checkHead(t, nil, none, false)
	checkHead(t, make([]api.Member, 0, 3), none, false)
}

// P16.1: the member that is all noughts is one as others are: where it is answered, a true stands beside.
func TestNoughts(t *testing.T) {
	none := member(0, 0)
	l := chainOf(0, 0, 2, 1, 0, 0)
	checkHead(t, l, none, true)
	checkAhead(t, l, member(2, 1), none, true)
	checkBehind(t, l, member(2, 1), none, true)
	checkIndex(t, l, none, 0)
	checkAhead(t, l, none, none, false)
	checkBehind(t, l, none, member(2, 1), true)
	checkIndex(t, nil, none, -1)
	checkAhead(t, nil, none, none, false)
	checkBehind(t, nil, none, none, false)
}

// P16.1: what lies behind a list's end isn't in it.
func TestBehindTheEnd(t *testing.T) {
	whole := row(16, 2)
	l := whole[2:5]
	checkRight(t, l, true)
	checkIndex(t, l, whole[5], -1)
	checkIndex(t, l, whole[1], -1)
	checkAhead(t, l, whole[2], member(0, 0), false)
	checkBehind(t, l, whole[4], member(0, 0), false)
	checkHead(t, l, whole[2], true)
	checkHead(t, whole[3:3], member(0, 0), false)
	checkIs(t, l, whole[5].Node, whole[5].Boot, whole[5], false)
}

// P16.1: long lists, as no chain is.
func TestLongLists(t *testing.T) {
	const n = 1 << 18
	l := row(n, 0)
	for _, at := range []int{0, 1, 15, 16, 17, n / 2, n - 2, n - 1} {
		checkIndex(t, l, l[at], at)
		checkIs(t, l, l[at].Node, l[at].Boot, l[at], true)
		ahead, there := besideBy(l, l[at], -1)
		checkAhead(t, l, l[at], ahead, there)
		behind, there := besideBy(l, l[at], 1)
		checkBehind(t, l, l[at], behind, there)
	}
	checkHead(t, l, l[0], true)
	checkIndex(t, l, member(n, 1), -1)
}

// P16.2: each phase, and numbers that are none, at epochs above, at and below that of which it was asked to freeze.
func TestLive(t *testing.T) {
	for _, phase := range []int{api.Frozen, api.Sync, api.Active, 4, -1, 99, math.MinInt, math.MaxInt} {
		for epoch := range 6 {
			for frozen := range 6 {
				checkLive(t, rep(phase, epoch, frozen), frozen <= epoch)
				checkLive(t, rep(api.None, epoch, frozen), false)
			}
		}
	}
	checkLive(t, api.Rep{}, false)
}

// P16.2: epochs at the ends of all, so far apart that what lies between two of them is beyond an int.
func TestLiveFar(t *testing.T) {
	far := []int{math.MinInt, math.MinInt + 1, -1, 0, 1, 1 << 31, 1 << 32, api.MaxCount - 1, api.MaxCount, math.MaxInt - 1, math.MaxInt}
	for i, epoch := range far {
		for j, frozen := range far {
			checkLive(t, rep(api.Active, epoch, frozen), j <= i)
			checkLive(t, rep(api.None, epoch, frozen), false)
		}
	}
}

// P16.2: nothing else of a member's state matters.
func TestLiveAlone(t *testing.T) {
	full := api.Rep{
		Shard: 3, Self: member(2, 1), Frozen: 5, Got: 9 + 9i, Synced: []bool{true, false},
		View: api.View{Shard: 3, Epoch: 5, Gen: 2, Phase: api.Active, Chain: row(3, 2)},
		Tail: api.Tail{Floor: 6, Last: 7 + 1i, Log: []api.Entry{{Ver: 7 + 1i}}},
		Seen: []api.Seen{{Sess: 1, Num: 9}},
	}
	checkLive(t, full, true)
	full.Frozen = 6
	checkLive(t, full, false)
	full.View.Epoch = 6
	checkLive(t, full, true)
	full.View.Phase = api.None
	checkLive(t, full, false)
	bare := rep(api.Sync, 5, 5)
	checkLive(t, bare, true)
	bare.View.Gen, bare.Tail.Last, bare.Got, bare.View.Shard, bare.Shard = 1, 8, 8, 9, 9
	checkLive(t, bare, true)
}

// What comes out hangs on what goes in alone: asked anew, others between, each answers as at first.
func TestTwice(t *testing.T) {
	l, other := chainOf(2, 1, 3, 1), chainOf(3, 1, 2, 1, 2, 2)
	for range 3 {
		checkRight(t, l, true)
		checkRight(t, other, false)
		checkIndex(t, l, member(3, 1), 1)
		checkIndex(t, other, member(3, 1), 0)
		checkBehind(t, l, member(2, 1), member(3, 1), true)
		checkBehind(t, other, member(2, 1), member(2, 2), true)
		checkAhead(t, l, member(2, 2), member(0, 0), false)
		checkAhead(t, other, member(2, 2), member(2, 1), true)
		checkHead(t, l, member(2, 1), true)
		checkHead(t, other, member(3, 1), true)
		checkIs(t, l, 2, 2, member(2, 2), false)
		checkIs(t, other, 2, 2, member(2, 2), true)
		checkLive(t, rep(api.Frozen, 1, 2), false)
		checkLive(t, rep(api.Frozen, 2, 1), true)
	}
}

// P16.1: the greatest chain is the one that package api names.
func TestMostMembers(t *testing.T) {
	if !view.Right(row(api.MaxNodes, 2)) || view.Right(row(api.MaxNodes+1, 2)) {
		t.Fatal("a right chain has at most MaxNodes members")
	}
}
