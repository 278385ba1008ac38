package table_test

import (
	"math"
	"math/rand"
	"slices"
	"strconv"
	"testing"

	"lockgate/api"
	"lockgate/table"
)

// The chapter's example.
func TestExample(t *testing.T) {
	l := []api.Row{row("a", 1, 5, "x")}
	l = table.Apply(l, 0, []api.Entry{put("a", 1, 4, "y")})
	check(t, "an entry of 1 4", l, []api.Row{row("a", 1, 5, "x")})
	l = table.Apply(l, 0, []api.Entry{del("a", 2, 1)})
	check(t, "deleted by 2 1", l, []api.Row{gone("a", 2, 1)})
	check(t, "collected", table.Collect(l, version(2, 1)), nil)
}

// keys rise, byte by byte.
func keys() []string {
	return []string{"", "\x00", "\x00\x00", "10", "9", "A", "Z", "a", "a\x00", "aa", "ab", "b", "ba", "z", "\x7f", "\x80", "é", "\xc3\xff", "日本", "\xff", "\xff\x00", "\xff\xff"}
}

// P9.1: Find, of each key of rows, few or many, and of those that lie between.
func TestFind(t *testing.T) {
	all := keys()
	for step := 1; step <= len(all); step++ {
		for from := range step {
			var l []api.Row
			want := map[string]api.Row{}
			for i := from; i < len(all); i += step {
				r := row(all[i], i, 2*i, "val "+all[i])
				if i%3 == 0 {
					r = gone(all[i], i, 2*i)
				}
				l = append(l, r)
				want[r.Key] = r
			}
			for _, key := range all {
				r, ok := table.Find(l, key)
				if _, has := want[key]; r != want[key] || ok != has {
					t.Fatalf("Find(%v, %q) = %v, %v", l, key, r, ok)
				}
			}
		}
	}
}

// P9.1: Find, where there is nothing to be found.
func TestFindNone(t *testing.T) {
	for _, l := range [][]api.Row{nil, {}, {row("b", 1, 1, "x")}, {row("b", 1, 1, "x"), row("bb", 1, 2, "y")}} {
		for _, key := range []string{"", "a", "ba", "B", "c", "b\x00", "bbb"} {
			if r, ok := table.Find(l, key); r != (api.Row{}) || ok {
				t.Errorf("Find(%v, %q) = %v, %v", l, key, r, ok)
			}
		}
	}
	// A row that is nothing but its key is one.
	if r, ok := table.Find([]api.Row{{}}, ""); r != (api.Row{}) || !ok {
		t.Errorf("the row of nothing: %v, %v", r, ok)
	}
	// What lies behind a list's end isn't of it.
	l, _ := roomy([]api.Row{row("a", 1, 1, "x")})
	if r, ok := table.Find(l, "behind"); r != (api.Row{}) || ok {
		t.Errorf("behind the end: %v, %v", r, ok)
	}
}

// applying is rows, a floor, entries, and the rows that the chapter asks for then.
type applying struct {
	what  string
	l     []api.Row
	floor api.Ver
	es    []api.Entry
	want  []api.Row
}

// ofRows are entries held against their key's rows.
func ofRows() []applying {
	b := row("b", 2, 5, "old")
	return []applying{
		{"nothing", nil, 0, nil, nil},
		{"no rows, no entries", []api.Row{}, version(1, 1), []api.Entry{}, nil},
		{"no entries", []api.Row{b}, version(9, 9), nil, []api.Row{b}},
		{"no rows", nil, 0, []api.Entry{put("b", 0, 1, "x")}, []api.Row{row("b", 0, 1, "x")}},
		{"ahead of its row", []api.Row{b}, 0, []api.Entry{put("b", 2, 4, "x")}, []api.Row{b}},
		{"ahead, of an epoch ahead", []api.Row{b}, 0, []api.Entry{put("b", 1, 6, "x")}, []api.Row{b}},
		{"of its row's version", []api.Row{b}, 0, []api.Entry{put("b", 2, 5, "x")}, []api.Row{b}},
		{"deleted, of its row's version", []api.Row{b}, 0, []api.Entry{del("b", 2, 5)}, []api.Row{b}},
		{"behind its row", []api.Row{b}, 0, []api.Entry{put("b", 2, 6, "x")}, []api.Row{row("b", 2, 6, "x")}},
		{"behind, of an epoch behind", []api.Row{b}, 0, []api.Entry{put("b", 3, 1, "x")}, []api.Row{row("b", 3, 1, "x")}},
		{"of no value", []api.Row{b}, 0, []api.Entry{put("b", 3, 0, "")}, []api.Row{row("b", 3, 0, "")}},
		{"deleted", []api.Row{b}, 0, []api.Entry{del("b", 2, 6)}, []api.Row{gone("b", 2, 6)}},
		{"deleted, without a row", []api.Row{b}, 0, []api.Entry{del("a", 1, 1)}, []api.Row{gone("a", 1, 1), b}},
		{"put behind what is gone", []api.Row{gone("b", 2, 5)}, 0, []api.Entry{put("b", 2, 6, "x")}, []api.Row{row("b", 2, 6, "x")}},
		{"put ahead of what is gone", []api.Row{gone("b", 2, 5)}, 0, []api.Entry{put("b", 2, 4, "x")}, []api.Row{gone("b", 2, 5)}},
		{"of what is gone's version", []api.Row{gone("b", 2, 5)}, 0, []api.Entry{put("b", 2, 5, "x")}, []api.Row{gone("b", 2, 5)}},
		{"gone once more", []api.Row{gone("b", 2, 5)}, 0, []api.Entry{del("b", 3, 1)}, []api.Row{gone("b", 3, 1)}},
	}
}

// ofFloors are entries held against floors, and such as aren't Writes.
func ofFloors() []applying {
	b := row("b", 2, 5, "old")
	of := func(kind int, e api.Entry) api.Entry {
		e.Kind = kind
		return e
	}
	unwritten := del("b", 9, 9)
	unwritten.Write = false
	return []applying{
		{"nothing's version", nil, 0, []api.Entry{put("b", 0, 0, "x")}, nil},
		{"of the floor's version", nil, version(2, 3), []api.Entry{put("b", 2, 3, "x"), del("c", 2, 3)}, nil},
		{"ahead of the floor", nil, version(2, 3), []api.Entry{put("b", 2, 2, "x"), del("c", 2, 2)}, nil},
		{"ahead, of an epoch ahead", nil, version(2, 3), []api.Entry{put("b", 1, 4, "x")}, nil},
		{"behind the floor", nil, version(2, 3), []api.Entry{put("b", 2, 4, "x")}, []api.Row{row("b", 2, 4, "x")}},
		{"behind, of an epoch behind", nil, version(2, 3), []api.Entry{put("b", 3, 0, "x")}, []api.Row{row("b", 3, 0, "x")}},
		{"behind its row, not behind the floor", []api.Row{b}, version(3, 0), []api.Entry{put("b", 2, 6, "x"), put("b", 3, 0, "y")}, []api.Row{b}},
		{"behind both", []api.Row{b}, version(3, 0), []api.Entry{put("b", 3, 1, "x")}, []api.Row{row("b", 3, 1, "x")}},
		{"behind the floor, ahead of its row", []api.Row{b}, version(1, 0), []api.Entry{put("b", 2, 4, "x")}, []api.Row{b}},
		{"rows ahead of the floor stay, gone or not", []api.Row{gone("a", 1, 1), b}, version(8, 8), []api.Entry{put("c", 9, 9, "x")}, []api.Row{gone("a", 1, 1), b, row("c", 9, 9, "x")}},
		{"reads", []api.Row{b}, 0, []api.Entry{read("b", 9, 9), read("a", 9, 9), read("c", 9, 9)}, []api.Row{b}},
		{"of Kinds that write, without a Write", []api.Row{b}, 0, []api.Entry{of(api.Put, read("b", 9, 9)), of(api.Swap, read("c", 9, 9)), unwritten}, []api.Row{b}},
		{"of Kinds that don't write, with one", []api.Row{b}, 0, []api.Entry{of(api.Get, put("b", 9, 9, "x")), of(api.Barrier, put("c", 9, 9, "y")), of(0, del("a", 9, 9))}, []api.Row{gone("a", 9, 9), row("b", 9, 9, "x"), row("c", 9, 9, "y")}},
		{"the greatest versions", nil, version(api.MaxCount, api.MaxCount-1), []api.Entry{put("b", api.MaxCount, api.MaxCount, "x"), put("c", api.MaxCount, api.MaxCount-1, "x"), put("d", api.MaxCount-1, api.MaxCount, "x")}, []api.Row{row("b", api.MaxCount, api.MaxCount, "x")}},
	}
}

// ofRowsOfEntries are entries one behind the other, and where their rows stand.
func ofRowsOfEntries() []applying {
	b, d := row("b", 2, 5, "bb"), row("d", 2, 6, "dd")
	return []applying{
		{"rising versions", nil, 0, []api.Entry{put("a", 1, 1, "x"), put("a", 1, 2, "y"), del("a", 1, 3), put("a", 1, 4, "z")}, []api.Row{row("a", 1, 4, "z")}},
		{"falling versions", nil, 0, []api.Entry{put("a", 1, 4, "z"), del("a", 1, 3), put("a", 1, 2, "y"), put("a", 1, 1, "x")}, []api.Row{row("a", 1, 4, "z")}},
		{"a number more, of an epoch ahead", nil, 0, []api.Entry{put("a", 2, 1, "x"), put("a", 1, 2, "y")}, []api.Row{row("a", 2, 1, "x")}},
		{"the last one deletes", nil, 0, []api.Entry{del("a", 1, 3), put("a", 1, 2, "y")}, []api.Row{gone("a", 1, 3)}},
		{"of one version: the first one", nil, 0, []api.Entry{put("a", 1, 1, "x"), put("a", 1, 1, "y"), del("a", 1, 1)}, []api.Row{row("a", 1, 1, "x")}},
		{"of one version, deleted first", nil, 0, []api.Entry{del("a", 1, 1), put("a", 1, 1, "y")}, []api.Row{gone("a", 1, 1)}},
		{"of one version, behind its row", []api.Row{b}, 0, []api.Entry{put("b", 2, 4, "w"), put("b", 2, 6, "x"), put("b", 2, 6, "y"), put("b", 2, 5, "z")}, []api.Row{row("b", 2, 6, "x")}},
		{"one of two of a key behind the floor", nil, version(1, 1), []api.Entry{put("a", 1, 2, "y"), put("a", 1, 1, "x")}, []api.Row{row("a", 1, 2, "y")}},
		{"first", []api.Row{b, d}, 0, []api.Entry{put("a", 1, 1, "x")}, []api.Row{row("a", 1, 1, "x"), b, d}},
		{"between", []api.Row{b, d}, 0, []api.Entry{put("c", 1, 1, "x")}, []api.Row{b, row("c", 1, 1, "x"), d}},
		{"last", []api.Row{b, d}, 0, []api.Entry{put("e", 1, 1, "x")}, []api.Row{b, d, row("e", 1, 1, "x")}},
		{"all, in some order", []api.Row{b, d}, 0, []api.Entry{put("e", 1, 1, "x"), put("", 1, 2, "no key"), put("c", 1, 3, "y"), put("d", 9, 1, "z"), del("a", 1, 4)}, []api.Row{row("", 1, 2, "no key"), gone("a", 1, 4), b, row("c", 1, 3, "y"), row("d", 9, 1, "z"), row("e", 1, 1, "x")}},
		{"keys that are beginnings of others", []api.Row{row("a", 1, 1, "x")}, 0, []api.Entry{put("aa", 1, 2, "y"), put("", 1, 3, "z"), put("a\x00", 1, 4, "w"), put("A", 1, 5, "v"), put("\xff", 1, 6, "u")}, []api.Row{row("", 1, 3, "z"), row("A", 1, 5, "v"), row("a", 1, 1, "x"), row("a\x00", 1, 4, "w"), row("aa", 1, 2, "y"), row("\xff", 1, 6, "u")}},
	}
}

// P9.1: Apply.
func TestApply(t *testing.T) {
	for _, x := range slices.Concat(ofRows(), ofFloors(), ofRowsOfEntries()) {
		check(t, x.what, table.Apply(x.l, x.floor, x.es), x.want)
	}
}

// P9.1: Apply, of one entry at each place of rows, and of each of two.
func TestApplyEverywhere(t *testing.T) {
	all := keys()
	var l []api.Row
	for i := 1; i < len(all); i += 2 {
		l = append(l, row(all[i], 5, 5, all[i]))
	}
	for _, key := range all {
		for _, other := range all {
			for _, num := range []int{4, 5, 6} {
				es := []api.Entry{put(key, 5, num, "new"), del(other, 5, 6)}
				check(t, strconv.Quote(key)+" "+strconv.Quote(other), table.Apply(l, version(5, 4), es), applied(l, version(5, 4), es))
			}
		}
	}
}

// someEntries are entries of few keys and versions, so that they meet.
func someEntries(random *rand.Rand, n, keys int) []api.Entry {
	var es []api.Entry
	for i := range n {
		e := put("key "+strconv.Itoa(random.Intn(keys)), random.Intn(4), random.Intn(9), "val "+strconv.Itoa(i))
		e.Kind = random.Intn(6)
		e.Write = random.Intn(5) > 0
		e.Del = random.Intn(3) == 0
		es = append(es, e)
	}
	return es
}

func someFloor(random *rand.Rand) api.Ver { return version(random.Intn(3), random.Intn(9)) }

// P9.1: Apply and Collect, one behind the other, for long; each answer is right.
func TestLives(t *testing.T) {
	random := rand.New(rand.NewSource(9))
	for range 300 {
		keys := 1 + random.Intn(12)
		var l []api.Row
		for range 20 {
			floor := someFloor(random)
			es := someEntries(random, random.Intn(10), keys)
			next := table.Apply(l, floor, es)
			check(t, "applied", next, applied(l, floor, es))
			checkRight(t, next)
			l = table.Collect(next, floor)
			check(t, "collected", l, collected(next, floor))
			checkRight(t, l)
		}
	}
}

func checkRight(t *testing.T, l []api.Row) {
	t.Helper()
	if !table.Right(l) {
		t.Fatalf("not right: %v", l)
	}
}

// P9.1: Apply, of many entries in no order; all are found then.
func TestMany(t *testing.T) {
	random := rand.New(rand.NewSource(99))
	var l []api.Row
	for range 3 {
		es := someEntries(random, 2*api.MaxList, 3*api.MaxList)
		next := table.Apply(l, version(0, 4), es)
		check(t, "many", next, applied(l, version(0, 4), es))
		l = next
		for _, r := range l {
			if found, ok := table.Find(l, r.Key); found != r || !ok {
				t.Fatalf("Find(%q) = %v, %v", r.Key, found, ok)
			}
		}
	}
}

func collected(l []api.Row, floor api.Ver) []api.Row {
	return slices.DeleteFunc(slices.Clone(l), func(r api.Row) bool { return r.Del && rank(r.Ver) <= rank(floor) })
}

// P9.1: Collect.
func TestCollect(t *testing.T) {
	a, b, c, d := gone("a", 1, 5), row("b", 1, 6, ""), gone("c", 2, 1), row("d", 0, 0, "x")
	all := []api.Row{a, b, c, d}
	for _, x := range []struct {
		what  string
		l     []api.Row
		floor api.Ver
		want  []api.Row
	}{
		{"nothing", nil, version(9, 9), nil},
		{"no rows", []api.Row{}, 0, nil},
		{"nothing's version", all, 0, all},
		{"ahead of all that is gone", all, version(1, 4), all},
		{"one's version", all, version(1, 5), []api.Row{b, c, d}},
		{"behind one", all, version(1, 6), []api.Row{b, c, d}},
		{"a number more, of an epoch ahead", all, version(1, 9), []api.Row{b, c, d}},
		{"an epoch behind, no number", all, version(2, 0), []api.Row{b, c, d}},
		{"the last one's version", all, version(2, 1), []api.Row{b, d}},
		{"behind all", all, version(api.MaxCount, api.MaxCount), []api.Row{b, d}},
		{"all of them gone", []api.Row{a, c}, version(3, 0), nil},
		{"gone, of nothing's version", []api.Row{gone("", 0, 0), d}, 0, []api.Row{d}},
	} {
		check(t, x.what, table.Collect(x.l, x.floor), x.want)
	}
}

// P9.1: Right, of right rows.
func TestRight(t *testing.T) {
	var l []api.Row
	for i, key := range keys() {
		checkRight(t, l)
		l = append(l, row(key, i%3, 40-i, "same"))
	}
	checkRight(t, l)
	for _, l := range [][]api.Row{
		{},
		{{}},
		{row("a", 5, 5, "x"), row("b", 0, 0, "x"), gone("c", api.MaxCount, api.MaxCount)},
		{{Key: "a", Val: "a value", Del: true}},
		{{Key: "a", Ver: api.Ver(complex(math.Copysign(0, -1), math.Copysign(0, -1)))}},
	} {
		checkRight(t, l)
	}
	short, _ := roomy([]api.Row{row("z", 1, 1, "x")})
	checkRight(t, short)
}

// P9.1: Right, of keys that don't rise, at each place.
func TestWrongKeys(t *testing.T) {
	all := keys()
	for at := 1; at < len(all); at++ {
		for ahead := range at + 1 {
			var l []api.Row
			for i, key := range all {
				if i == at {
					// It is no greater than the one ahead of it.
					key = all[max(0, ahead-1)]
				}
				l = append(l, row(key, 1, 1+i, "x"))
			}
			if table.Right(l) {
				t.Errorf("right: %v", l)
			}
		}
	}
	for _, pair := range [][2]string{{"", ""}, {"a", "a"}, {"b", "a"}, {"aa", "a"}, {"a", "Z"}, {"a\x00", "a"}, {"9", "10"}, {"\xff", "é"}, {"\x80", "\x7f"}} {
		l := []api.Row{row(pair[0], 1, 1, "x"), row(pair[1], 2, 2, "y")}
		if table.Right(l) {
			t.Errorf("right: %v", l)
		}
	}
}

// P9.1: Right, of versions that are none, at each place.
func TestWrongVersions(t *testing.T) {
	for _, x := range []float64{-1, 0.5, 1 - 1e-9, api.MaxCount + 1, api.MaxCount + 0.5, -api.MaxCount, math.NaN(), math.Inf(1), math.Inf(-1), math.SmallestNonzeroFloat64} {
		for _, v := range []api.Ver{api.Ver(complex(x, 1)), api.Ver(complex(1, x)), api.Ver(complex(x, x))} {
			for n := 1; n <= 4; n++ {
				for at := range n {
					var l []api.Row
					for i := range n {
						l = append(l, row(keys()[i], 1, 1, "x"))
					}
					l[at].Ver = v
					if table.Right(l) {
						t.Errorf("right: %v", l)
					}
				}
			}
		}
	}
}

// P9.1: of rows that aren't right, and versions that are none, nothing is promised but that each call ends, and doesn't panic.
func TestWrongThings(t *testing.T) {
	random := rand.New(rand.NewSource(999))
	wrong := []api.Ver{-1, api.Ver(complex(math.NaN(), math.NaN())), api.Ver(complex(math.Inf(1), 0.5)), api.Ver(complex(0, math.Inf(-1)))}
	for range 1000 {
		var l []api.Row
		for range random.Intn(9) {
			l = append(l, row(keys()[random.Intn(len(keys()))], 1, random.Intn(9), "x"))
		}
		es := someEntries(random, random.Intn(9), 4)
		floor := someFloor(random)
		for _, v := range wrong {
			if len(l) > 0 {
				l[random.Intn(len(l))].Ver = v
			}
			if len(es) > 0 {
				es[random.Intn(len(es))].Ver = v
			}
			table.Apply(l, floor, es)
			table.Apply(l, v, es)
			table.Collect(l, v)
			table.Find(l, "a")
			if len(l) > 0 && table.Right(l) {
				t.Fatalf("right: %v", l)
			}
		}
	}
}
