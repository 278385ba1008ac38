package view_test

import (
	"math"
	"strconv"
	"testing"

	"lockgate/api"
	"lockgate/view"
)

func member(node, boot int) api.Member { return api.Member{Node: node, Boot: boot} }

// chainOf is a list of members, told by node and start, one behind the other.
func chainOf(nums ...int) []api.Member {
	var l []api.Member
	for i := 0; i < len(nums); i += 2 {
		l = append(l, member(nums[i], nums[i+1]))
	}
	return l
}

// row is the right chain of n nodes from first on.
func row(n, first int) []api.Member {
	var l []api.Member
	for i := range n {
		l = append(l, member(first+i, 1+i%3))
	}
	return l
}

// few are members of which lists are made: one node at several starts, several nodes at one start, and the one that is all noughts.
func few() []api.Member { return chainOf(0, 0, 0, 1, 1, 0, 1, 1, 2, 1) }

// asked are those members, and some that no list has: of each a part that lists have, and members at both ends of an int.
func asked() []api.Member {
	return append(few(), chainOf(2, 0, 2, 2, 1, 2, 3, 1, -1, 0, 0, -1, -1, -1, math.MaxInt, 1, 1, math.MinInt)...)
}

// lists hands out each list of up to n of the few members.
func lists(n int, use func(l []api.Member)) {
	var from func(l []api.Member)
	from = func(l []api.Member) {
		use(l)
		if len(l) == n {
			return
		}
		for _, m := range few() {
			from(append(l[:len(l):len(l)], m))
		}
	}
	from(nil)
}

// orders hands out each order of n nodes.
func orders(n int, use func(l []api.Member)) {
	var from func(l []api.Member)
	from = func(l []api.Member) {
		if len(l) == n {
			use(l)
			return
		}
		for node := range n {
			if countNode(l, node) == 0 {
				from(append(l[:len(l):len(l)], member(node, len(l)%2)))
			}
		}
	}
	from(nil)
}

// Below are the chapter's words, each by numbers alone and by loops over all that there is.

func same(a, b api.Member) bool { return a.Node == b.Node && a.Boot == b.Boot }

func countNode(l []api.Member, node int) int {
	n := 0
	for _, m := range l {
		if m.Node == node {
			n++
		}
	}
	return n
}

func rightBy(l []api.Member) bool {
	for _, m := range l {
		if countNode(l, m.Node) != 1 {
			return false
		}
	}
	return 1 <= len(l) && len(l) <= 16
}

// indexBy looks from the end, so that the first place is the last one it finds.
func indexBy(l []api.Member, m api.Member) int {
	at := -1
	for i := len(l) - 1; i >= 0; i-- {
		if same(l[i], m) {
			at = i
		}
	}
	return at
}

// besideBy is the member that is so many places from m's, if m and that one stand in the list.
func besideBy(l []api.Member, m api.Member, step int) (api.Member, bool) {
	place := indexBy(l, m)
	for i, x := range l {
		if place >= 0 && i == place+step {
			return x, true
		}
	}
	return api.Member{}, false
}

func told(m api.Member) string { return strconv.Itoa(m.Node) + " " + strconv.Itoa(m.Boot) }

func toldAll(l []api.Member) string {
	s := strconv.Itoa(len(l)) + ":"
	for i, m := range l {
		if i == 20 {
			return s + " .."
		}
		s += " (" + told(m) + ")"
	}
	return s
}

func checkRight(t *testing.T, l []api.Member, want bool) {
	t.Helper()
	if got := view.Right(l); got != want {
		t.Fatalf("right, of %s: %v", toldAll(l), got)
	}
}

func checkIndex(t *testing.T, l []api.Member, m api.Member, want int) {
	t.Helper()
	if got := view.Index(l, m); got != want {
		t.Fatalf("the place of %s in %s: %d, not %d", told(m), toldAll(l), got, want)
	}
}

func checkFound(t *testing.T, what string, got api.Member, ok bool, want api.Member, there bool) {
	t.Helper()
	if !same(got, want) || ok != there {
		t.Fatalf("%s: %s, %v, not %s, %v", what, told(got), ok, told(want), there)
	}
}

func checkAhead(t *testing.T, l []api.Member, m, want api.Member, there bool) {
	t.Helper()
	got, ok := view.Ahead(l, m)
	checkFound(t, "ahead of "+told(m)+" in "+toldAll(l), got, ok, want, there)
}

func checkBehind(t *testing.T, l []api.Member, m, want api.Member, there bool) {
	t.Helper()
	got, ok := view.Behind(l, m)
	checkFound(t, "behind "+told(m)+" in "+toldAll(l), got, ok, want, there)
}

func checkHead(t *testing.T, l []api.Member, want api.Member, there bool) {
	t.Helper()
	got, ok := view.Head(l)
	checkFound(t, "the head of "+toldAll(l), got, ok, want, there)
}

func checkIs(t *testing.T, l []api.Member, from, boot int, m api.Member, want bool) {
	t.Helper()
	if got := view.Is(l, from, boot, m); got != want {
		t.Fatalf("is %s that of %d at its start %d, and in %s: %v", told(m), from, boot, toldAll(l), got)
	}
}

func checkLive(t *testing.T, r api.Rep, want bool) {
	t.Helper()
	if got := view.Live(r); got != want {
		t.Fatalf("live, of phase %d, epoch %d, frozen %d: %v", r.View.Phase, r.View.Epoch, r.Frozen, got)
	}
}

// rep is a member's state, of which nothing beside is told.
func rep(phase, epoch, frozen int) api.Rep {
	return api.Rep{View: api.View{Phase: phase, Epoch: epoch}, Frozen: frozen}
}
