package tail_test

import (
	"math"
	"slices"
	"strconv"
	"strings"
	"testing"

	"lockgate/api"
	"lockgate/tail"
)

// P15.1, P15.2: the chapter's examples.
func TestExamples(t *testing.T) {
	a1, b2, a3 := write(version(1, 1), "a", "x"), write(version(1, 2), "b", "y"), write(version(1, 3), "a", "z")
	l := api.Tail{}
	for _, e := range []api.Entry{a1, b2, a3} {
		checkPush(t, l, e, true)
		l, _ = tail.Push(l, e)
	}
	checkEntries(t, "up to 1 2", tail.Batch(l, version(1, 2), nil, 9), []api.Entry{a1, b2})
	checkEntries(t, "up to 1 3", tail.Batch(l, version(1, 3), nil, 9), []api.Entry{b2, a3})
	checkRise(t, l, version(1, 3), []api.Item{item("a", version(1, 3))}, version(1, 1))
}

// P15.1: an entry is pushed, whole, behind all others, if its version is behind the last one; else nothing is.
func TestPush(t *testing.T) {
	smallTails(3, func(l api.Tail) {
		for _, v := range points() {
			for _, e := range shapes(v) {
				checkPush(t, l, e, isAhead(l.Last, v))
			}
		}
	})
}

// P15.1: a tail whose last version is far behind its entries and its floor takes none up to that.
func TestPushBehindLast(t *testing.T) {
	for _, l := range []api.Tail{
		{Last: version(3, 5)},
		{Floor: version(2, 9), Last: version(3, 5)},
		{Floor: version(3, 5), Last: version(3, 5)},
	} {
		for _, v := range []api.Ver{0, version(0, 6), version(2, 9), version(2, api.MaxCount), version(3, 0), version(3, 4), version(3, 5)} {
			checkPush(t, l, write(v, "a", "1"), false)
		}
		for _, v := range []api.Ver{version(3, 6), version(3, api.MaxCount), version(4, 0), version(4, 5), version(api.MaxCount, 0)} {
			checkPush(t, l, write(v, "a", "1"), true)
		}
	}
	end := tailOf(0, write(version(api.MaxCount, api.MaxCount), "a", "1"))
	checkPush(t, end, write(version(api.MaxCount, api.MaxCount), "b", "1"), false)
	checkPush(t, end, write(version(api.MaxCount-1, api.MaxCount), "b", "1"), false)
}

// P15.1: the first entry of an empty tail is any one but that of nothing's version.
func TestPushFirst(t *testing.T) {
	checkPush(t, api.Tail{}, api.Entry{}, false)
	checkPush(t, api.Tail{}, write(0, "a", "1"), false)
	for _, v := range points()[1:] {
		checkPush(t, api.Tail{}, api.Entry{Ver: v}, true)
	}
}

// P15.1: behind a lift to each version stand the entries behind it, and floor and last are no less.
func TestLift(t *testing.T) {
	smallTails(3, func(l api.Tail) {
		for _, v := range points() {
			check(t, "lift to "+toldVer(v)+" of "+told(l), tail.Lift(l, v), liftBy(l, v))
		}
	})
	l := tailOf(version(1, 1), write(version(1, 2), "a", "1"), ask(version(2, 1), "a"))
	check(t, "below the floor", tail.Lift(l, version(1, 0)), l)
	check(t, "the floor", tail.Lift(l, version(1, 1)), l)
	check(t, "an entry's", tail.Lift(l, version(1, 2)), tailOf(version(1, 2), l.Log[1]))
	check(t, "between", tail.Lift(l, version(1, 9)), tailOf(version(1, 9), l.Log[1]))
	check(t, "ahead of an entry", tail.Lift(l, version(2, 0)), tailOf(version(2, 0), l.Log[1]))
	check(t, "the last", tail.Lift(l, version(2, 1)), tailOf(version(2, 1)))
	check(t, "beyond", tail.Lift(l, version(2, 2)), tailOf(version(2, 2)))
}

// P15.1: a tail without entries keeps its last version, till a floor is behind that.
func TestLiftNothing(t *testing.T) {
	l := api.Tail{Floor: version(1, 1), Last: version(3, 3)}
	for _, c := range []struct{ floor, wantFloor, wantLast api.Ver }{
		{0, l.Floor, l.Last},
		{version(1, 1), l.Floor, l.Last},
		{version(2, 9), version(2, 9), l.Last},
		{version(3, 3), version(3, 3), l.Last},
		{version(3, 4), version(3, 4), version(3, 4)},
		{version(4, 0), version(4, 0), version(4, 0)},
	} {
		check(t, "lift to "+toldVer(c.floor), tail.Lift(l, c.floor), api.Tail{Floor: c.wantFloor, Last: c.wantLast})
	}
	check(t, "nothing, to nothing", tail.Lift(api.Tail{}, 0), api.Tail{})
}

// P15.1: each write counts with the bytes of its key and value, and 1; nothing else does.
func TestBytes(t *testing.T) {
	told := erase(version(1, 5), "gone")
	told.Val = "four"
	for _, c := range []struct {
		es   []api.Entry
		want int
	}{
		{nil, 0},
		{[]api.Entry{write(version(1, 1), "", "")}, 1},
		{[]api.Entry{write(version(1, 1), "key", "")}, 4},
		{[]api.Entry{write(version(1, 1), "", "value")}, 6},
		{[]api.Entry{write(version(1, 1), "key", "value")}, 9},
		{[]api.Entry{write(version(1, 1), "\u00e9", "\x00\xff")}, 5},
		{[]api.Entry{erase(version(1, 1), "key")}, 4},
		{[]api.Entry{told}, 9},
		{[]api.Entry{ask(version(1, 1), "key")}, 0},
		{[]api.Entry{{Ver: version(1, 1), Kind: api.Swap, Key: "key", Val: "value", Del: true}}, 0},
		{[]api.Entry{write(version(1, 1), "a", "1"), write(version(1, 2), "a", "1"), ask(version(1, 3), "a"), write(version(1, 4), "b", "22")}, 3 + 3 + 4},
	} {
		if got := tail.Bytes(tailOf(0, c.es...)); got != c.want {
			t.Fatalf("%s: %d, not %d", toldEntries(c.es), got, c.want)
		}
	}
	smallTails(4, func(l api.Tail) {
		want := 0
		for _, e := range l.Log {
			if e.Write {
				want += len(e.Key) + len(e.Val) + 1
			}
		}
		if got := tail.Bytes(l); got != want {
			t.Fatalf("%s: %d, not %d", toldEntries(l.Log), got, want)
		}
	})
}

// P15.1: of each key its last write is told; of keys without one nothing is.
func TestValue(t *testing.T) {
	smallTails(4, func(l api.Tail) {
		for _, key := range []string{"a", "b", "c", "", "ab", "B"} {
			checkValue(t, l, key)
		}
	})
}

// P15.1: what a write says is its value, though that be empty; what is deleted has none, whatever the entry has beside.
func TestValueSays(t *testing.T) {
	gone := write(version(1, 4), "gone", "was")
	gone.Del = true
	read := write(version(2, 9), "a", "read")
	read.Write = false
	l := tailOf(0, write(version(1, 1), "a", "1"), write(version(1, 2), "empty", ""), write(version(1, 3), "gone", "is"), gone, write(version(2, 1), "", "of no key"), read)
	for _, c := range []struct {
		key  string
		want api.Item
		ok   bool
	}{
		{"a", api.Item{Key: "a", Val: "1", Has: true, Ver: version(1, 1)}, true},
		{"empty", api.Item{Key: "empty", Has: true, Ver: version(1, 2)}, true},
		{"gone", api.Item{Key: "gone", Ver: version(1, 4)}, true},
		{"", api.Item{Val: "of no key", Has: true, Ver: version(2, 1)}, true},
		{"A", api.Item{}, false},
		{"a\x00", api.Item{}, false},
		{"gon", api.Item{}, false},
	} {
		if got, ok := tail.Value(l, c.key); got != c.want || ok != c.ok {
			t.Fatalf("%q: %s, %v, not %s, %v", c.key, toldItem(got), ok, toldItem(c.want), c.ok)
		}
	}
	if got, ok := tail.Value(api.Tail{}, ""); got != (api.Item{}) || ok {
		t.Fatalf("of nothing: %s, %v", toldItem(got), ok)
	}
}

// P15.2: each small tail's batches, up to each version, with all that may have been flushed, and as many as may be.
func TestBatch(t *testing.T) {
	ds := dones()
	smallTails(4, func(l api.Tail) {
		for _, upto := range points() {
			for _, done := range ds {
				for _, most := range []int{1, 2, 9} {
					checkBatch(t, l, upto, done, most)
				}
			}
		}
	})
}

// P15.2: each small tail's floor rises up to each version, with all that may have been flushed, as far as it may.
func TestRise(t *testing.T) {
	ds := dones()
	smallTails(4, func(l api.Tail) {
		for _, upto := range points() {
			for _, done := range ds {
				checkRise(t, l, upto, done, riseBy(l, upto, done))
			}
		}
	})
}

// P15.2: there are no more than most in a batch, and none, if that is below 1.
func TestMost(t *testing.T) {
	var es []api.Entry
	for i := range 20 {
		es = append(es, write(version(1, 1+i), strconv.Itoa(i%10), "v"))
	}
	l := tailOf(0, es...)
	for _, most := range []int{math.MinInt, -1 << 40, -2, -1, 0} {
		checkEntries(t, "at most "+strconv.Itoa(most), tail.Batch(l, l.Last, nil, most), nil)
		checkEntries(t, "of nothing", tail.Batch(api.Tail{}, l.Last, nil, most), nil)
	}
	for most := 1; most < 15; most++ {
		checkEntries(t, "at most "+strconv.Itoa(most), tail.Batch(l, l.Last, nil, most), es[10:min(10+most, 20)])
		checkEntries(t, "half of them", tail.Batch(l, version(1, 10), nil, most), es[:min(most, 10)])
	}
	checkEntries(t, "as many as can be", tail.Batch(l, l.Last, nil, math.MaxInt), es[10:])
}

// P15.2: the first of them are those that aren't settled: what is settled doesn't count among the most.
func TestMostUnsettled(t *testing.T) {
	l := tailOf(0, write(version(1, 1), "a", "1"), ask(version(1, 2), "x"), write(version(1, 3), "b", "2"), write(version(1, 4), "c", "3"), write(version(1, 5), "a", "4"))
	done := []api.Item{item("a", version(1, 4)), item("b", version(1, 3))}
	checkEntries(t, "at most one", tail.Batch(l, l.Last, done, 1), l.Log[3:4])
	checkEntries(t, "at most two", tail.Batch(l, l.Last, done, 2), l.Log[3:5])
	checkEntries(t, "at most three", tail.Batch(l, l.Last, done, 3), l.Log[3:5])
}

// P15.2: a batch stands by its versions: neither by its keys, nor by numbers of unlike epochs, nor as texts.
func TestBatchByVersions(t *testing.T) {
	es := []api.Entry{
		write(version(0, api.MaxCount), "m", "1"), write(version(1, 2), "z", "1"), write(version(1, 10), "b", "1"), write(version(1, 11), "y", "1"),
		write(version(2, 1), "c", "1"), write(version(10, 0), "x", "1"), write(version(10, 3), "a", "1"), write(version(api.MaxCount, 0), "n", "1"), write(version(api.MaxCount, api.MaxCount), "d", "1"),
	}
	for range 50 {
		checkEntries(t, "all", tail.Batch(tailOf(0, es...), version(api.MaxCount, api.MaxCount), nil, 99), es)
	}
	for most := range len(es) + 1 {
		checkEntries(t, "the first ones", tail.Batch(tailOf(0, es...), version(api.MaxCount, api.MaxCount), nil, most), es[:most])
	}
	for at, e := range es {
		checkEntries(t, "up to "+toldVer(e.Ver), tail.Batch(tailOf(0, es...), e.Ver, nil, 99), es[:at+1])
	}
}

// P15.2: an entry of a batch is as it was pushed, with all that it has; a deletion is a write too.
func TestBatchWhole(t *testing.T) {
	full := api.Entry{Ver: version(1, 1), Kind: api.Swap, Key: "k", Val: "\x00\xff", Write: true, Sess: 7, Num: 8, Code: api.Good, Res: "r", HasRes: true}
	gone := api.Entry{Ver: version(1, 2), Kind: api.Delete, Key: "l", Val: "left", Write: true, Del: true, Sess: 9}
	none := api.Entry{Ver: version(1, 3), Write: true}
	not := api.Entry{Ver: version(1, 4), Kind: api.Delete, Key: "m", Val: "v", Del: true}
	checkEntries(t, "all", tail.Batch(tailOf(0, full, gone, none, not), version(1, 4), nil, 9), []api.Entry{full, gone, none})
}

// P15.2: of one key the last item counts, though it tells less than one ahead of it; what it has beside key and version doesn't.
func TestLastItemCounts(t *testing.T) {
	l := tailOf(0, write(version(1, 1), "a", "1"), write(version(1, 2), "a", "2"))
	less := []api.Item{item("a", version(1, 2)), item("b", version(9, 9)), item("a", version(1, 1))}
	checkRise(t, l, l.Last, less, version(1, 1))
	checkEntries(t, "less", tail.Batch(l, l.Last, less, 9), l.Log[1:])
	none := append(less, item("a", 0))
	checkRise(t, l, l.Last, none, 0)
	checkEntries(t, "nothing", tail.Batch(l, version(1, 1), none, 9), l.Log[:1])
	more := append(none, api.Item{Key: "a", Val: "other", Has: true, Ver: version(1, 2)})
	checkRise(t, l, l.Last, more, version(1, 2))
	checkEntries(t, "more", tail.Batch(l, l.Last, more, 9), nil)
}

// P15.2: a key's last write up to upto counts alone: none ahead of it is flushed in its place, if it is settled.
func TestNoneInPlace(t *testing.T) {
	l := tailOf(0, write(version(1, 1), "a", "1"), write(version(1, 2), "a", "2"), write(version(1, 3), "a", "3"))
	done := []api.Item{item("a", version(1, 2))}
	checkEntries(t, "up to 1 1", tail.Batch(l, version(1, 1), done, 9), nil)
	checkEntries(t, "up to 1 2", tail.Batch(l, version(1, 2), done, 9), nil)
	checkEntries(t, "up to 1 3", tail.Batch(l, version(1, 3), done, 9), l.Log[2:])
}

// P15.2: the floor doesn't rise over what isn't settled, whatever is settled behind it; and stays, where nothing is.
func TestRiseStops(t *testing.T) {
	l := tailOf(version(1, 1), ask(version(1, 2), "x"), write(version(1, 3), "a", "1"), ask(version(1, 4), "x"), write(version(1, 5), "b", "1"), ask(version(1, 6), "x"))
	a, b := item("a", version(1, 3)), item("b", version(1, 5))
	for _, c := range []struct {
		upto api.Ver
		done []api.Item
		want api.Ver
	}{
		{l.Last, nil, version(1, 2)},
		{l.Last, []api.Item{b}, version(1, 2)},
		{l.Last, []api.Item{a}, version(1, 4)},
		{l.Last, []api.Item{a, b}, version(1, 6)},
		{version(9, 9), []api.Item{b, a}, version(1, 6)},
		{version(1, 5), []api.Item{a, b}, version(1, 5)},
		{version(1, 4), []api.Item{a, b}, version(1, 4)},
		{version(1, 3), []api.Item{a, b}, version(1, 3)},
		{version(1, 2), []api.Item{a, b}, version(1, 2)},
		{version(1, 1), []api.Item{a, b}, version(1, 1)},
		{0, []api.Item{a, b}, version(1, 1)},
	} {
		checkRise(t, l, c.upto, c.done, c.want)
	}
	for _, upto := range points() {
		// There is no entry behind, though the last version be far: the floor stays.
		checkRise(t, api.Tail{Floor: version(1, 3), Last: version(4, 4)}, upto, nil, version(1, 3))
		checkRise(t, api.Tail{}, upto, []api.Item{a}, 0)
	}
}

// P15.2: keys are told apart byte by byte, and none of them is too long.
func TestKeys(t *testing.T) {
	keys := []string{"", "\x00", "a", "A", "a\x00", "aa", "\u00e9", "e\u0301", "\xff", strings.Repeat("k", api.MaxText), strings.Repeat("k", api.MaxText-1) + "l"}
	var es []api.Entry
	for i, key := range keys {
		es = append(es, write(version(1, 1+i), key, strconv.Itoa(i)))
	}
	l := tailOf(0, es...)
	checkEntries(t, "all", tail.Batch(l, l.Last, nil, 99), es)
	for i, key := range keys {
		checkValue(t, l, key)
		checkEntries(t, "all but one", tail.Batch(l, l.Last, []api.Item{item(key, l.Last)}, 99), slices.Delete(slices.Clone(es), i, i+1))
		checkRise(t, tailOf(0, es[i]), l.Last, []api.Item{item(key, l.Last)}, es[i].Ver)
		for other := range keys {
			if other != i {
				checkRise(t, tailOf(0, es[i]), l.Last, []api.Item{item(keys[other], l.Last)}, 0)
			}
		}
	}
}

// P15.1, P15.2: long tails are no other ones; a way along the tail for each entry of it, or for each item, would take minutes.
func TestLong(t *testing.T) {
	const n = 1 << 17
	es := make([]api.Entry, n)
	done := make([]api.Item, n)
	for i := range es {
		// The keys go through their numbers in no order; each stands twice.
		es[i] = write(version(1, 1+i), strconv.Itoa(i*7919%(n/2)), "v")
		done[i] = item(es[i].Key, es[i].Ver)
	}
	l := tailOf(0, es...)
	checkEntries(t, "all", tail.Batch(l, l.Last, nil, n), es[n/2:])
	checkEntries(t, "some", tail.Batch(l, l.Last, nil, 99), es[n/2:n/2+99])
	checkEntries(t, "the first half", tail.Batch(l, version(1, n/2), nil, n), es[:n/2])
	checkEntries(t, "half of them flushed", tail.Batch(l, l.Last, done[:n/2+n/4], n), es[n/2+n/4:])
	checkRise(t, l, l.Last, nil, 0)
	checkRise(t, l, l.Last, done, l.Last)
	checkRise(t, l, version(1, 77), done, version(1, 77))
	checkRise(t, l, l.Last, done[:n/2], version(1, n/2))
	check(t, "lift", tail.Lift(l, version(1, n-3)), tailOf(version(1, n-3), es[n-3:]...))
	checkPush(t, l, write(version(2, 0), "a", "1"), true)
	if got := tail.Bytes(l); got < 3*n {
		t.Fatal(got)
	}
}

// wrongVers are versions of every sort, and numbers that are none.
func wrongVers() []api.Ver {
	nan, inf := math.NaN(), math.Inf(1)
	return []api.Ver{version(1, 1), 0, version(-1, 2), api.Ver(complex(1.5, 1)), api.Ver(complex(nan, 1)), api.Ver(complex(1, nan)), api.Ver(complex(inf, -inf)), api.Ver(complex(-inf, inf)), api.Ver(complex(1e300, 1))}
}

// Of tails that aren't right, and of versions that are none, nothing is promised, but that the calls end and don't panic; and that nobody sees the order of a map.
func TestWrong(t *testing.T) {
	vs := wrongVers()
	for row := range 9 * 9 * 9 {
		l := api.Tail{Floor: vs[row%9], Last: vs[row/9%9]}
		var done []api.Item
		for i := range 9 {
			v := vs[(row/81+i*i)%9]
			l.Log = append(l.Log, write(v, string(rune('a'+i*5%9)), "1"), ask(v, "a"))
			done = append(done, item(string(rune('a'+i%2)), v))
		}
		for _, v := range vs {
			tail.Push(l, write(v, "a", "1"))
			tail.Lift(l, v)
			tail.Rise(l, v, done)
			one, two := toldEntries(tail.Batch(l, v, done, 5)), toldEntries(tail.Batch(l, v, done, 5))
			if one != two {
				t.Fatalf("a batch of %s: %s, and then %s", told(l), one, two)
			}
		}
		tail.Bytes(l)
		tail.Value(l, "a")
	}
}
