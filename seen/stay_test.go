package seen_test

import (
	"slices"
	"testing"

	"lockgate/api"
	"lockgate/seen"
)

// puts are calls that are new, the same and old, of all sessions of a list and of others.
func puts(l []api.Seen) []api.Seen {
	var ps []api.Seen
	for _, sess := range sessions(l) {
		for _, num := range []int{0, 5, 6, 7, 8, 9, 100} {
			ps = append(ps, last(sess, num))
		}
	}
	return ps
}

// P14.3: what is handed in stays, also behind the list's end.
func TestHandedInStays(t *testing.T) {
	for n := range 9 {
		for _, s := range puts(some(n)) {
			l := roomy(some(n))
			was := slices.Clone(whole(l))
			check(t, "put "+toldCall(s), seen.Put(l, s), like(some(n)).put(s).list())
			check(t, "put: handed in", whole(l), was)
			got, _ := seen.Find(l, s.Sess)
			got.Num, got.Res = -1, "spoilt"
			seen.Verdict(l, s.Sess, s.Num)
			check(t, "asked: handed in", whole(l), was)
		}
	}
}

// P14.3: what is answered is new memory: whatever is written over what was handed in, it stays.
func TestAnswersApart(t *testing.T) {
	for n := range 9 {
		for _, s := range puts(some(n)) {
			l := roomy(some(n))
			got := seen.Put(l, s)
			spoil(l)
			check(t, "put "+toldCall(s), got, like(some(n)).put(s).list())
		}
	}
}

// P14.3: whoever writes over an answer, or behind its end, or appends to it, changes nothing of what was handed in.
func TestAnswersSpoilt(t *testing.T) {
	for n := range 9 {
		for _, s := range puts(some(n)) {
			l := roomy(some(n))
			was := slices.Clone(whole(l))
			got := seen.Put(l, s)
			_ = append(got, last(1<<29, 1))
			spoil(got)
			check(t, "put "+toldCall(s)+": handed in", whole(l), was)
		}
	}
}

// P14.3: of one list each call answers another memory, so that one answer may be written over, and the next one is as it should be.
func TestEachAnswerApart(t *testing.T) {
	for n := range 9 {
		for _, s := range puts(some(n)) {
			l := roomy(some(n))
			one, two := seen.Put(l, s), seen.Put(l, s)
			spoil(one)
			check(t, "put "+toldCall(s), two, like(some(n)).put(s).list())
			check(t, "once more", seen.Put(l, s), like(some(n)).put(s).list())
		}
	}
}

// P14.3: lists that came of one list go on apart from one another.
func TestGoOnApart(t *testing.T) {
	l := some(3)
	one, two := seen.Put(l, last(90, 1)), seen.Put(l, last(91, 1))
	three, four := seen.Put(one, last(92, 1)), seen.Put(one, last(93, 1))
	check(t, "the first one", one, append(some(3), last(90, 1)))
	check(t, "the second one", two, append(some(3), last(91, 1)))
	check(t, "behind the first one", three, append(some(3), last(90, 1), last(92, 1)))
	check(t, "behind it, too", four, append(some(3), last(90, 1), last(93, 1)))
	check(t, "the list", l, some(3))
}
