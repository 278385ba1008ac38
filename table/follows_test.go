package table_test

import (
	"math/rand"
	"slices"
	"testing"

	"lockgate/api"
	"lockgate/table"
)

// someRows are right rows, gone ones among them.
func someRows(random *rand.Rand, keys int) []api.Row {
	return applied(nil, 0, someEntries(random, random.Intn(12), keys))
}

// unlike are entries no two of which are of one version.
func unlike(es []api.Entry) []api.Entry {
	var l []api.Entry
	for _, e := range es {
		if !slices.ContainsFunc(l, func(o api.Entry) bool { return o.Ver == e.Ver }) {
			l = append(l, e)
		}
	}
	return l
}

// P9.2: applied twice is applied once, in two calls or in one.
func TestTwice(t *testing.T) {
	random := rand.New(rand.NewSource(1))
	for range 2000 {
		l, floor, es := someRows(random, 5), someFloor(random), someEntries(random, random.Intn(8), 5)
		once := table.Apply(l, floor, es)
		check(t, "once", once, applied(l, floor, es))
		check(t, "twice", table.Apply(once, floor, es), once)
		check(t, "twice in one", table.Apply(l, floor, slices.Concat(es, es)), once)
		var each []api.Entry
		for _, e := range es {
			each = append(each, e, e)
		}
		check(t, "each one twice", table.Apply(l, floor, each), once)
	}
}

// inEachOrder hands all orders of the entries to f.
func inEachOrder(es []api.Entry, from int, f func([]api.Entry)) {
	if from == len(es) {
		f(es)
		return
	}
	for i := from; i < len(es); i++ {
		es[from], es[i] = es[i], es[from]
		inEachOrder(es, from+1, f)
		es[from], es[i] = es[i], es[from]
	}
}

// P9.2: in whatever order entries of unlike versions are applied, at once or one by one, the rows are the same.
func TestOrders(t *testing.T) {
	random := rand.New(rand.NewSource(2))
	for range 200 {
		l, floor, es := someRows(random, 3), someFloor(random), unlike(someEntries(random, random.Intn(6), 3))
		want := table.Apply(l, floor, es)
		check(t, "in order", want, applied(l, floor, es))
		inEachOrder(slices.Clone(es), 0, func(es []api.Entry) {
			check(t, "at once", table.Apply(l, floor, es), want)
			rows := l
			for _, e := range es {
				rows = table.Apply(rows, floor, []api.Entry{e})
			}
			check(t, "one by one", rows, want)
		})
	}
}

// P9.2: a key's version never falls, and no row goes by an entry.
func TestVersionsRise(t *testing.T) {
	random := rand.New(rand.NewSource(3))
	for range 300 {
		l := someRows(random, 4)
		for range 10 {
			next := table.Apply(l, someFloor(random), someEntries(random, random.Intn(4), 4))
			for _, r := range l {
				n, ok := table.Find(next, r.Key)
				if !ok || rank(n.Ver) < rank(r.Ver) || n.Ver == r.Ver && n != r {
					t.Fatalf("%v became %v, %v", r, n, ok)
				}
			}
			l = next
		}
	}
}

// P9.2: what was collected doesn't come back by entries whose versions aren't behind the floor; none of the rows changes by such.
func TestNothingComesBack(t *testing.T) {
	random := rand.New(rand.NewSource(4))
	went := 0
	for range 2000 {
		l, floor := someRows(random, 6), someFloor(random)
		rest := table.Collect(l, floor)
		went += len(l) - len(rest)
		es := slices.DeleteFunc(someEntries(random, 30, 6), func(e api.Entry) bool { return rank(e.Ver) > rank(floor) })
		check(t, "entries of before", table.Apply(rest, floor, es), rest)
		check(t, "collected once more", table.Collect(rest, floor), rest)
	}
	if went == 0 {
		t.Error("nothing was ever collected")
	}
	// Behind the floor a key may be written anew.
	l := table.Collect([]api.Row{gone("a", 2, 1)}, version(2, 1))
	l = table.Apply(l, version(2, 1), []api.Entry{put("a", 2, 1, "no"), put("a", 2, 2, "yes")})
	check(t, "written anew", l, []api.Row{row("a", 2, 2, "yes")})
}

// calls are those of Apply and Collect of the rows, with and without anything to do.
func calls() map[string]func([]api.Row) []api.Row {
	apply := func(floor api.Ver, es ...api.Entry) func([]api.Row) []api.Row {
		return func(l []api.Row) []api.Row { return table.Apply(l, floor, es) }
	}
	return map[string]func([]api.Row) []api.Row{
		"no entries":            apply(0),
		"a read":                apply(0, read("c", 9, 9)),
		"of its row's version":  apply(0, put("c", 1, 3, "x")),
		"over the first one":    apply(0, put("a", 9, 1, "x")),
		"over one":              apply(0, put("c", 9, 1, "x")),
		"over the last one":     apply(0, del("e", 9, 1)),
		"first":                 apply(0, put("", 9, 1, "x")),
		"between":               apply(0, put("bb", 9, 1, "x")),
		"last":                  apply(0, put("f", 9, 1, "x")),
		"all over":              apply(0, put("f", 9, 1, "x"), del("a", 9, 2), put("c", 9, 3, "y"), put("a", 9, 4, "z"), put("cc", 9, 5, "w")),
		"nothing is collected":  func(l []api.Row) []api.Row { return table.Collect(l, 0) },
		"one is collected":      func(l []api.Row) []api.Row { return table.Collect(l, version(1, 2)) },
		"all gone is collected": func(l []api.Row) []api.Row { return table.Collect(l, version(9, 9)) },
	}
}

// P9.3: rows that are handed in stay, also behind their end, and what is answered is new memory, up to its capacity.
func TestRowsStay(t *testing.T) {
	l := []api.Row{row("a", 1, 1, "aa"), gone("b", 1, 2), row("c", 1, 3, "cc"), row("d", 1, 4, ""), gone("e", 1, 5)}
	for what, call := range calls() {
		for n := range len(l) + 1 {
			handed, all := roomy(l[:n])
			was := slices.Clone(all)
			got := call(handed)
			check(t, what+": handed in", all, was)
			want := slices.Clone(got)
			again := call(handed)
			spoil(again)
			check(t, what+": another answer", got, want)
			spoil(got)
			check(t, what+": behind the answer's change", all, was)
			got = call(handed)
			spoil(all)
			check(t, what+": behind the rows' change", got, want)
		}
	}
}

// P9.3: entries that are handed in stay, in their order, also behind their end; a change of them isn't in the rows.
func TestEntriesStay(t *testing.T) {
	all := []api.Entry{put("c", 1, 1, "x"), del("a", 1, 2), read("b", 1, 3), put("c", 1, 4, "y"), put("a", 1, 1, "z"), del("d", 1, 6), put("behind", 9, 9, "the end")}
	was := slices.Clone(all)
	for n := range len(all) {
		got := table.Apply([]api.Row{row("b", 1, 1, "bb")}, version(1, 1), all[:n])
		want := slices.Clone(got)
		if !slices.Equal(all, was) {
			t.Fatalf("the entries became %v", all)
		}
		for i := range all {
			all[i] = put("spoilt", 99, 99, "spoilt")
		}
		check(t, "behind the entries' change", got, want)
		copy(all, was)
	}
}

// P9.3: Find and Right leave the rows as they are.
func TestFindStays(t *testing.T) {
	for _, l := range [][]api.Row{{row("a", 1, 1, "aa"), gone("b", 1, 2), row("c", 1, 3, "cc")}, {row("b", 1, 1, "x"), row("a", 1, 1, "y")}} {
		handed, all := roomy(l)
		was := slices.Clone(all)
		for _, key := range keys() {
			r, _ := table.Find(handed, key)
			r.Val = "spoilt"
		}
		table.Right(handed)
		check(t, "handed in", all, was)
	}
}
