package view_test

import (
	"slices"
	"testing"

	"lockgate/api"
	"lockgate/view"
)

// roomy is the list, with members behind its end that nobody may write over.
func roomy(l []api.Member) []api.Member {
	more := append(slices.Clone(l), chainOf(77, 1, 78, 2)...)
	return more[:len(l)]
}

// whole is the list up to its capacity.
func whole(l []api.Member) []api.Member { return l[:cap(l)] }

// askAll asks each call of the list.
func askAll(l []api.Member, m api.Member) {
	view.Right(l)
	view.Index(l, m)
	view.Ahead(l, m)
	view.Behind(l, m)
	view.Head(l)
	view.Is(l, m.Node, m.Boot, m)
	view.Live(api.Rep{View: api.View{Epoch: 1, Phase: api.Active, Chain: l}, Frozen: 1})
}

// No call changes what is handed in, nor what lies behind its end.
func TestHandedInStays(t *testing.T) {
	lists(4, func(small []api.Member) {
		for _, m := range asked() {
			l := roomy(small)
			was := slices.Clone(whole(l))
			askAll(l, m)
			if !slices.Equal(whole(l), was) {
				t.Fatalf("%s handed in, and now %s", toldAll(was), toldAll(whole(l)))
			}
		}
	})
}

// No call keeps what was handed in: written over, a list is another one.
func TestNothingKept(t *testing.T) {
	l := chainOf(2, 1, 3, 1, 4, 1)
	head, _ := view.Head(l)
	behind, _ := view.Behind(l, head)
	askAll(l, head)
	copy(l, chainOf(5, 1, 5, 2, 5, 3))
	checkFound(t, "the head of before", head, true, member(2, 1), true)
	checkFound(t, "the one behind it", behind, true, member(3, 1), true)
	checkRight(t, l, false)
	checkIndex(t, l, member(2, 1), -1)
	checkHead(t, l, member(5, 1), true)
	checkBehind(t, l, member(5, 1), member(5, 2), true)
	checkAhead(t, l, member(5, 3), member(5, 2), true)
	checkIs(t, l, 3, 1, member(3, 1), false)
}
