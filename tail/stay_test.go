package tail_test

import (
	"slices"
	"testing"

	"lockgate/api"
	"lockgate/tail"
)

// roomy is the tail, with entries behind its log's end that nobody may write over.
func roomy(l api.Tail) api.Tail {
	more := append(slices.Clone(l.Log), write(version(90, 1), "x", "1"), write(version(90, 2), "y", "2"))
	l.Log = more[:len(l.Log)]
	return l
}

func roomyItems(l []api.Item) []api.Item {
	more := append(slices.Clone(l), item("x", version(90, 1)), item("y", version(90, 2)))
	return more[:len(l)]
}

// whole is the list up to its capacity.
func whole[T any](l []T) []T { return l[:cap(l)] }

// spoil writes over all of the list, up to its capacity.
func spoil[T any](l []T, with T) {
	for i := range whole(l) {
		whole(l)[i] = with
	}
}

func spoilt() api.Entry { return api.Entry{Ver: version(99, 99), Key: "spoilt", Write: true} }

// call is one of the chapter's calls that answer lists, of a tail and what was flushed.
type call struct {
	name string
	do   func(l api.Tail, done []api.Item) []api.Entry
	want func(l api.Tail, done []api.Item) []api.Entry
}

func pushed(v api.Ver) func(l api.Tail, done []api.Item) []api.Entry {
	return func(l api.Tail, _ []api.Item) []api.Entry {
		next, _ := tail.Push(l, write(v, "p", "1"))
		return next.Log
	}
}

func calls() []call {
	cs := []call{
		{"push", pushed(version(80, 1)), func(l api.Tail, _ []api.Item) []api.Entry {
			return append(slices.Clone(l.Log), write(version(80, 1), "p", "1"))
		}},
		{"push of what isn't behind", pushed(version(1, 1)), func(l api.Tail, _ []api.Item) []api.Entry { return slices.Clone(l.Log) }},
	}
	for _, v := range []api.Ver{0, version(1, 1), version(1, 2), version(2, 0), version(2, 1), version(9, 9)} {
		cs = append(cs,
			call{"lift to " + toldVer(v), func(l api.Tail, _ []api.Item) []api.Entry { return tail.Lift(l, v).Log }, func(l api.Tail, _ []api.Item) []api.Entry { return liftBy(l, v).Log }},
			call{"batch up to " + toldVer(v), func(l api.Tail, done []api.Item) []api.Entry { return tail.Batch(l, v, done, 9) }, func(l api.Tail, done []api.Item) []api.Entry { return batchBy(l, v, done, 9) }},
			call{"batch of one, up to " + toldVer(v), func(l api.Tail, done []api.Item) []api.Entry { return tail.Batch(l, v, done, 1) }, func(l api.Tail, done []api.Item) []api.Entry { return batchBy(l, v, done, 1) }},
		)
	}
	return cs
}

func someDones() [][]api.Item {
	return [][]api.Item{nil, {item("b", version(1, 3))}, {item("b", version(9, 9)), item("a", version(1, 2)), item("b", version(1, 2))}}
}

// eachCall hands out each call, with roomy things, and what it is to answer.
func eachCall(use func(c call, l api.Tail, done []api.Item, want []api.Entry)) {
	smallTails(3, func(small api.Tail) {
		for _, c := range calls() {
			for _, done := range someDones() {
				use(c, roomy(small), roomyItems(done), c.want(small, done))
			}
		}
	})
}

// P15.4: what is handed in stays, also behind its end, and though the answer be written over up to its capacity, or appended to.
func TestHandedInStays(t *testing.T) {
	eachCall(func(c call, l api.Tail, done []api.Item, want []api.Entry) {
		log, items := slices.Clone(whole(l.Log)), slices.Clone(whole(done))
		got := c.do(l, done)
		checkEntries(t, c.name, got, want)
		_ = append(got, spoilt())
		spoil(got, spoilt())
		checkEntries(t, c.name+": handed in", whole(l.Log), log)
		if !slices.Equal(whole(done), items) {
			t.Fatalf("%s: %s handed in, and now %s", c.name, toldItems(items), toldItems(whole(done)))
		}
	})
}

// P15.4: what is answered is new memory: whatever is written over what was handed in, it stays.
func TestAnswersApart(t *testing.T) {
	eachCall(func(c call, l api.Tail, done []api.Item, want []api.Entry) {
		got := c.do(l, done)
		spoil(l.Log, spoilt())
		spoil(done, item("spoilt", 0))
		checkEntries(t, c.name, got, want)
	})
}

// P15.4: of one tail each call answers another memory, so that one answer may be written over, and the next one is as it should be.
func TestEachAnswerApart(t *testing.T) {
	eachCall(func(c call, l api.Tail, done []api.Item, want []api.Entry) {
		one, two := c.do(l, done), c.do(l, done)
		spoil(one, spoilt())
		checkEntries(t, c.name, two, want)
		checkEntries(t, c.name+", once more", c.do(l, done), want)
	})
}

// P15.4: what answers no list changes nothing of what is handed in.
func TestAskedStays(t *testing.T) {
	smallTails(3, func(small api.Tail) {
		for _, d := range dones() {
			l, done := roomy(small), roomyItems(d)
			log, items := slices.Clone(whole(l.Log)), slices.Clone(whole(done))
			tail.Bytes(l)
			tail.Value(l, "a")
			tail.Rise(l, version(2, 1), done)
			checkEntries(t, "handed in", whole(l.Log), log)
			if !slices.Equal(whole(done), items) {
				t.Fatalf("%s handed in, and now %s", toldItems(items), toldItems(whole(done)))
			}
		}
	})
}

// P15.4: tails that came of one tail go on apart from one another.
func TestGoOnApart(t *testing.T) {
	l := roomy(tailOf(0, write(version(1, 1), "a", "1")))
	of := func(es ...api.Entry) api.Tail {
		return tailOf(0, append([]api.Entry{write(version(1, 1), "a", "1")}, es...)...)
	}
	b, c, d, e := write(version(1, 2), "b", "1"), write(version(1, 3), "c", "1"), write(version(1, 4), "d", "1"), write(version(1, 5), "e", "1")
	one, _ := tail.Push(l, b)
	two, _ := tail.Push(l, c)
	three, _ := tail.Push(one, d)
	four, _ := tail.Push(one, e)
	five, ok := tail.Push(two, b)
	check(t, "the first one", one, of(b))
	check(t, "the second one", two, of(c))
	check(t, "behind the first one", three, of(b, d))
	check(t, "behind it, too", four, of(b, e))
	check(t, "refused", five, of(c))
	if ok {
		t.Fatal("an entry that isn't behind was pushed")
	}
	check(t, "the tail", l, of())
}
