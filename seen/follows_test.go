package seen_test

import (
	"math/rand"
	"testing"

	"lockgate/api"
	"lockgate/seen"
)

// verdictBehind is P14.2 by its words: it looks back over all that was put for a call of the session that counted.
func verdictBehind(put []api.Seen, sess, num int) int {
	found, greatest := false, 0
	for _, s := range put {
		if s.Sess == sess && (!found || s.Num > greatest) {
			found, greatest = true, s.Num
		}
	}
	switch {
	case !found || num > greatest:
		return 0
	case num < greatest:
		return 2
	}
	return 1
}

// firstOf is the call that was put ahead of all others of the session's greatest number.
func firstOf(put []api.Seen, sess int) (api.Seen, bool) {
	var first api.Seen
	found := false
	for _, s := range put {
		if s.Sess == sess && (!found || s.Num > first.Num) {
			found, first = true, s
		}
	}
	return first, found
}

// P14.2: in long lives all verdicts, and all that is found, are as all that was put says; the sessions rise always.
func TestLives(t *testing.T) {
	for seed := range 100 {
		r := rand.New(rand.NewSource(int64(seed)))
		many, nums := 1+r.Intn(8), 1+r.Intn(20)
		var put, l []api.Seen
		for range 60 {
			s := last(r.Intn(many)-1, r.Intn(nums)-1)
			if r.Intn(3) == 0 {
				s = other(s)
			}
			l, put = seen.Put(l, s), append(put, s)
			for sess := -2; sess <= many; sess++ {
				for num := -2; num <= nums; num++ {
					checkVerdict(t, l, sess, num, verdictBehind(put, sess, num))
				}
				want, there := firstOf(put, sess)
				if got, ok := seen.Find(l, sess); got != want || ok != there {
					t.Fatalf("%d of %s: %s, %v, not %s, %v", sess, told(l), toldCall(got), ok, toldCall(want), there)
				}
			}
			for i := range l[1:] {
				if l[i].Sess >= l[i+1].Sess {
					t.Fatalf("%s", told(l))
				}
			}
		}
	}
}

// P14.2: a call that was put is the same, and all of lesser numbers are old, until a newer one is put.
func TestUntilNewer(t *testing.T) {
	l := some(6)
	for _, sess := range sessions(l) {
		was := l
		for _, num := range []int{20, 21, 23, 1000, api.MaxCount} {
			was = seen.Put(was, last(sess, num))
			for _, late := range []int{num, num - 1, 20, 1, 0, -5} {
				// What is late changes nothing of what holds.
				check(t, "late", seen.Put(was, other(last(sess, late))), was)
				checkVerdict(t, was, sess, num, 1)
				checkVerdict(t, was, sess, num-1, 2)
				checkVerdict(t, was, sess, 0, 2)
				checkVerdict(t, was, sess, num+1, 0)
			}
		}
	}
}

// P14.2: of other sessions nothing changes by a Put.
func TestOthersStay(t *testing.T) {
	for n := range 10 {
		l := some(n)
		for _, sess := range sessions(l) {
			for _, num := range []int{0, 5, 6, 100} {
				next := seen.Put(l, last(sess, num))
				for _, x := range sessions(next) {
					if x == sess {
						continue
					}
					checkFind(t, next, x, like(l))
					for asked := range 12 {
						checkVerdict(t, next, x, asked, like(l).verdict(x, asked))
					}
				}
			}
		}
	}
}

// P14.2: of calls of all sessions, in whatever order, some late, some doubled, what is left is each session's greatest one.
func TestAnyOrder(t *testing.T) {
	for seed := range 200 {
		r := rand.New(rand.NewSource(int64(seed)))
		var calls []api.Seen
		for range 1 + r.Intn(40) {
			s := last(r.Intn(6), r.Intn(10))
			calls = append(calls, s, s)
		}
		m := model{}
		for _, s := range calls {
			m = m.put(s)
		}
		r.Shuffle(len(calls), func(i, j int) { calls[i], calls[j] = calls[j], calls[i] })
		var l []api.Seen
		for _, s := range calls {
			l = seen.Put(l, s)
		}
		check(t, "all orders", l, m.list())
	}
}

// P14.2: what is seen by entries, one behind the other, is each session's last one.
func TestEntries(t *testing.T) {
	r := rand.New(rand.NewSource(14))
	var l []api.Seen
	latest := map[int]api.Entry{}
	nums := map[int]int{}
	for i := range 500 {
		sess := r.Intn(20)
		nums[sess] += 1 + r.Intn(3)
		e := api.Entry{Ver: version(1+i/100, i), Kind: 1 + r.Intn(5), Key: "k", Val: "v", Write: r.Intn(2) == 0, Sess: sess, Num: nums[sess], Code: r.Intn(3), Res: "res"[:r.Intn(4)], HasRes: r.Intn(2) == 0}
		if v := seen.Verdict(l, e.Sess, e.Num); v != 0 {
			t.Fatalf("%v, of %s: %d", e, told(l), v)
		}
		l = seen.Put(l, seen.Of(e))
		latest[sess] = e
		for sess, e := range latest {
			s, ok := seen.Find(l, sess)
			if !ok || s.Num != e.Num || s.Ver != e.Ver || s.Kind != e.Kind || s.Code != e.Code || s.Res != e.Res || s.HasRes != e.HasRes {
				t.Fatalf("%v: %s, %v", e, toldCall(s), ok)
			}
		}
	}
}
