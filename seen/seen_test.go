package seen_test

import (
	"math"
	"slices"
	"strconv"
	"strings"
	"testing"

	"lockgate/api"
	"lockgate/seen"
)

// P14.1: the chapter's example.
func TestExample(t *testing.T) {
	l := seen.Put(nil, last(3, 5))
	check(t, "put", l, []api.Seen{last(3, 5)})
	checkVerdict(t, l, 3, 5, 1)
	checkVerdict(t, l, 3, 4, 2)
	checkVerdict(t, l, 3, 6, 0)
	for num := range 9 {
		checkVerdict(t, l, 4, num, 0)
	}
}

// P14.1: of each list of few sessions each session's call is found, whole, and none of those that it hasn't.
func TestFind(t *testing.T) {
	for n := range 20 {
		l := some(n)
		for _, sess := range sessions(l) {
			checkFind(t, l, sess, like(l))
		}
	}
}

// P14.1: where there is nothing, nothing is found, and all is new.
func TestNothing(t *testing.T) {
	for _, l := range [][]api.Seen{nil, {}, roomy(nil)} {
		for _, sess := range []int{-1, 0, 1, 7, 1 << 30, math.MaxInt} {
			if s, ok := seen.Find(l, sess); s != (api.Seen{}) || ok {
				t.Fatalf("%d of nothing: %s, %v", sess, toldCall(s), ok)
			}
			for _, num := range []int{math.MinInt, -1, 0, 1, math.MaxInt} {
				checkVerdict(t, l, sess, num, 0)
			}
		}
	}
}

// P14.1: a session that is found has a call, though it be of noughts all.
func TestNoughts(t *testing.T) {
	l := seen.Put(nil, api.Seen{})
	check(t, "put", l, []api.Seen{{}})
	if s, ok := seen.Find(l, 0); s != (api.Seen{}) || !ok {
		t.Fatalf("the call of noughts: %s, %v", toldCall(s), ok)
	}
	checkVerdict(t, l, 0, -1, 2)
	checkVerdict(t, l, 0, 0, 1)
	checkVerdict(t, l, 0, 1, 0)
	checkVerdict(t, l, 1, 0, 0)
}

// P14.1: each number of each session of a list, and of those beside, is told to be new, the same, or old.
func TestVerdict(t *testing.T) {
	for n := range 12 {
		l := some(n)
		for _, sess := range sessions(l) {
			for num := -1; num < 12; num++ {
				checkVerdict(t, l, sess, num, like(l).verdict(sess, num))
			}
		}
	}
}

// P14.1: numbers are held against each other as they are, even where no difference of them fits an int.
func TestFarNumbers(t *testing.T) {
	far := []int{math.MinInt, math.MinInt + 1, -2, -1, 0, 1, 2, api.MaxCount, math.MaxInt - 1, math.MaxInt}
	var all []api.Seen
	for _, sess := range far {
		all = append(all, last(sess, 7))
	}
	for at, num := range far {
		checkFind(t, all, num, like(all))
		one := []api.Seen{last(1, num)}
		for other, asked := range far {
			checkFind(t, []api.Seen{last(num, 1)}, asked, model{num: last(num, 1)})
			want := 1
			if other > at {
				want = 0
			} else if other < at {
				want = 2
			}
			checkVerdict(t, one, 1, asked, want)
			check(t, "put "+strconv.Itoa(asked), seen.Put(one, last(1, asked)), []api.Seen{last(1, max(num, asked))})
			check(t, "sessions", seen.Put([]api.Seen{last(num, 1)}, last(asked, 2)), model{num: last(num, 1)}.put(last(asked, 2)).list())
		}
	}
}

// P14.1: a call that is new stands at its session's place; one that isn't changes nothing, though the rest of it be another one.
func TestPut(t *testing.T) {
	for n := range 12 {
		l := some(n)
		for _, sess := range sessions(l) {
			for num := -1; num < 12; num++ {
				for _, s := range []api.Seen{last(sess, num), other(last(sess, num))} {
					check(t, "put "+toldCall(s), seen.Put(l, s), like(l).put(s).list())
				}
			}
		}
	}
}

// P14.1: what a session's new call has counts, none of what its older one had: not its version, which may be ahead of that.
func TestPutWhole(t *testing.T) {
	was := api.Seen{Sess: 4, Num: 2, Ver: version(9, 9), Kind: api.Swap, Code: api.Other, Res: "was", HasRes: true}
	l := []api.Seen{last(1, 9), was, last(5, 9)}
	for _, s := range []api.Seen{
		{Sess: 4, Num: 3},
		{Sess: 4, Num: 3, Ver: version(1, 1)},
		{Sess: 4, Num: 3, Kind: api.Put},
		{Sess: 4, Num: 3, Code: api.Exhausted},
		{Sess: 4, Num: 3, Res: "is"},
		{Sess: 4, Num: 3, HasRes: true},
		{Sess: 4, Num: 400, Ver: version(9, 10), Kind: api.Get, Code: api.Absent, Res: "\x00\xff", HasRes: true},
	} {
		check(t, "new", seen.Put(l, s), []api.Seen{last(1, 9), s, last(5, 9)})
		for _, num := range []int{2, 1, 0, -1} {
			s.Num = num
			check(t, "not new", seen.Put(l, s), l)
		}
	}
}

// P14.1: a session without a call may begin with whatever number.
func TestFirstNumber(t *testing.T) {
	for _, num := range []int{math.MinInt, -1, 0, 1, 2, 77, math.MaxInt} {
		check(t, "first", seen.Put(some(2), last(4, num)), []api.Seen{some(2)[0], last(4, num), some(2)[1]})
	}
}

// P14.1: in whatever order sessions come, they stand by their numbers, as numbers and not as texts.
func TestOrders(t *testing.T) {
	all := []api.Seen{last(-3, 1), last(2, 1), last(9, 1), last(10, 1), last(100, 1)}
	var from func(l []api.Seen, at int)
	from = func(l []api.Seen, at int) {
		if at < len(l) {
			for i := at; i < len(l); i++ {
				next := slices.Clone(l)
				next[at], next[i] = next[i], next[at]
				from(next, at+1)
			}
			return
		}
		var got []api.Seen
		for _, s := range l {
			got = seen.Put(got, s)
		}
		check(t, "put in the order "+told(l), got, all)
	}
	from(all, 0)
}

// P14.1: of an entry its Sess, Num, Ver, Kind, Code, Res, HasRes are seen, each by itself, and none of the rest.
func TestOf(t *testing.T) {
	for _, c := range []struct {
		e    api.Entry
		want api.Seen
	}{
		{api.Entry{}, api.Seen{}},
		{api.Entry{Sess: 7}, api.Seen{Sess: 7}},
		{api.Entry{Num: 7}, api.Seen{Num: 7}},
		{api.Entry{Ver: version(3, 4)}, api.Seen{Ver: version(3, 4)}},
		{api.Entry{Kind: api.Barrier}, api.Seen{Kind: api.Barrier}},
		{api.Entry{Code: api.Absent}, api.Seen{Code: api.Absent}},
		{api.Entry{Res: "r"}, api.Seen{Res: "r"}},
		{api.Entry{HasRes: true}, api.Seen{HasRes: true}},
		{api.Entry{Key: "k", Val: "v", Write: true, Del: true}, api.Seen{}},
		{
			api.Entry{Ver: version(api.MaxCount, api.MaxCount), Kind: api.Swap, Key: "k", Val: "v", Write: true, Sess: api.MaxCount, Num: 4, Code: api.Other, Res: "\x00\xff", HasRes: true},
			api.Seen{Sess: api.MaxCount, Num: 4, Ver: version(api.MaxCount, api.MaxCount), Kind: api.Swap, Code: api.Other, Res: "\x00\xff", HasRes: true},
		},
		{api.Entry{Sess: -1, Num: math.MinInt, Kind: -3, Code: -4, Res: "no result", HasRes: false}, api.Seen{Sess: -1, Num: math.MinInt, Kind: -3, Code: -4, Res: "no result"}},
	} {
		if got := seen.Of(c.e); got != c.want {
			t.Fatalf("%v: %s, not %s", c.e, toldCall(got), toldCall(c.want))
		}
	}
}

// P14.1: lists of as many sessions as there may be, and more, are no other ones.
func TestMany(t *testing.T) {
	for _, n := range []int{api.MaxList - 1, api.MaxList, api.MaxList + 1, 3 * api.MaxList} {
		l := some(n)
		m := like(l)
		for at, s := range l {
			checkFind(t, l, s.Sess, m)
			checkVerdict(t, l, s.Sess, s.Num, 1)
			if at%97 != 0 && at < n-2 {
				continue
			}
			newer, between := last(s.Sess, s.Num+1), last(s.Sess+1, 1)
			check(t, "newer", seen.Put(l, newer), slices.Concat(l[:at], []api.Seen{newer}, l[at+1:]))
			check(t, "the same", seen.Put(l, other(s)), l)
			if at+1 == n || l[at+1].Sess != between.Sess {
				check(t, "between", seen.Put(l, between), slices.Concat(l[:at+1], []api.Seen{between}, l[at+1:]))
			}
		}
		check(t, "first", seen.Put(l, last(0, 1)), slices.Concat([]api.Seen{last(0, 1)}, l))
	}
}

// P14.1: a session's call is found in a few steps: one way along such a list for each of its sessions would take hours.
func TestLongList(t *testing.T) {
	l := make([]api.Seen, 1<<20)
	for i := range l {
		l[i] = api.Seen{Sess: 2 * i, Num: i}
	}
	for i := range l {
		if s, ok := seen.Find(l, 2*i); s != l[i] || !ok {
			t.Fatalf("%d: %s, %v", 2*i, toldCall(s), ok)
		}
		checkVerdict(t, l, 2*i, i-1, 2)
		if _, ok := seen.Find(l, 2*i+1); ok {
			t.Fatalf("%d was found", 2*i+1)
		}
	}
}

// P14.1: a long result is told whole.
func TestLongResult(t *testing.T) {
	s := last(3, 5)
	s.Res = strings.Repeat("long ", 1<<18)
	l := seen.Put(some(4), s)
	checkFind(t, l, 3, model{3: s})
	if got := seen.Of(api.Entry{Res: s.Res}); got.Res != s.Res {
		t.Fatal("a long result, cut")
	}
}

// P14.1: each version that chapter 1 knows stays as it is.
func TestVersions(t *testing.T) {
	for _, v := range []api.Ver{0, version(1, 1), version(api.MaxCount, api.MaxCount), version(0, 7), version(5, 0)} {
		s := api.Seen{Sess: 3, Num: 1, Ver: v}
		l := seen.Put([]api.Seen{last(1, 1)}, s)
		check(t, "put", l, []api.Seen{last(1, 1), s})
		checkFind(t, l, 3, like(l))
	}
}

// Of lists whose sessions don't rise, and of calls whose Ver is no version, nothing is promised, but that the calls end and don't panic.
func TestWrong(t *testing.T) {
	nan, inf := math.NaN(), math.Inf(1)
	wrong := []api.Seen{last(5, 1), {Sess: 5, Num: -1, Ver: api.Ver(complex(nan, nan))}, {Sess: math.MinInt, Num: 9, Ver: api.Ver(complex(inf, -1))}, {Sess: math.MaxInt, Kind: -1}, {}}
	for row := range 5 * 5 * 5 * 5 {
		var l []api.Seen
		for k := row; k > 0; k /= 5 {
			l = append(l, wrong[k%5])
		}
		for _, s := range wrong {
			seen.Find(l, s.Sess)
			seen.Verdict(l, s.Sess, s.Num)
			seen.Put(l, s)
		}
	}
	for _, s := range wrong {
		seen.Of(api.Entry{Sess: s.Sess, Num: s.Num, Ver: s.Ver, Kind: s.Kind})
	}
}
