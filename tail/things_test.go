package tail_test

import (
	"slices"
	"strconv"
	"testing"

	"lockgate/api"
	"lockgate/tail"
)

func version(epoch, num int) api.Ver { return api.Ver(complex(float64(epoch), float64(num))) }

// isAhead is chapter 1's order, by the versions' parts as whole numbers.
func isAhead(a, b api.Ver) bool {
	ea, na, eb, nb := int(real(a)), int(imag(a)), int(real(b)), int(imag(b))
	return ea < eb || ea == eb && na < nb
}

// write, erase and ask are entries of a key; each differs from those of other versions in what it tells beside.
func write(v api.Ver, key, val string) api.Entry {
	return api.Entry{Ver: v, Kind: api.Put, Key: key, Val: val, Write: true, Sess: 1 + int(imag(v))%5, Num: int(imag(v)), Code: api.Good}
}

func erase(v api.Ver, key string) api.Entry {
	return api.Entry{Ver: v, Kind: api.Delete, Key: key, Write: true, Del: true, Sess: 2, Num: 7}
}

func ask(v api.Ver, key string) api.Entry {
	return api.Entry{Ver: v, Kind: api.Get, Key: key, Sess: 3, Num: int(real(v)), Code: api.Absent, Res: "of " + key, HasRes: true}
}

// item is what was flushed of a key.
func item(key string, v api.Ver) api.Item { return api.Item{Key: key, Ver: v} }

// tailOf is the right tail of these entries behind the floor.
func tailOf(floor api.Ver, es ...api.Entry) api.Tail {
	last := floor
	if len(es) > 0 {
		last = es[len(es)-1].Ver
	}
	return api.Tail{Floor: floor, Last: last, Log: es}
}

// Below are the chapter's words, each by loops over all that there is.

func settledBy(e api.Entry, done []api.Item) bool {
	if !e.Write {
		return true
	}
	for i := len(done) - 1; i >= 0; i-- {
		if done[i].Key == e.Key {
			return !isAhead(done[i].Ver, e.Ver)
		}
	}
	return false
}

func liftBy(t api.Tail, floor api.Ver) api.Tail {
	next := t
	if isAhead(t.Floor, floor) {
		next.Floor = floor
	}
	if isAhead(t.Last, floor) {
		next.Last = floor
	}
	next.Log = slices.DeleteFunc(slices.Clone(t.Log), func(e api.Entry) bool { return !isAhead(floor, e.Ver) })
	return next
}

func valueBy(t api.Tail, key string) (api.Item, bool) {
	x, ok := api.Item{}, false
	for _, e := range t.Log {
		switch {
		case !e.Write || e.Key != key:
		case e.Del:
			x, ok = api.Item{Key: key, Ver: e.Ver}, true
		default:
			x, ok = api.Item{Key: key, Ver: e.Ver, Val: e.Val, Has: true}, true
		}
	}
	return x, ok
}

// isLastBy tells whether the entry at the place is its key's last write that isn't behind upto.
func isLastBy(l []api.Entry, at int, upto api.Ver) bool {
	if !l[at].Write || isAhead(upto, l[at].Ver) {
		return false
	}
	for _, e := range l[at+1:] {
		if e.Write && e.Key == l[at].Key && !isAhead(upto, e.Ver) {
			return false
		}
	}
	return true
}

func batchBy(t api.Tail, upto api.Ver, done []api.Item, most int) []api.Entry {
	var es []api.Entry
	for at, e := range t.Log {
		if len(es) < most && isLastBy(t.Log, at, upto) && !settledBy(e, done) {
			es = append(es, e)
		}
	}
	return es
}

func riseBy(t api.Tail, upto api.Ver, done []api.Item) api.Ver {
	rise, open := t.Floor, true
	for _, e := range t.Log {
		open = open && settledBy(e, done) && !isAhead(upto, e.Ver)
		if open {
			rise = e.Ver
		}
	}
	return rise
}

// shapes are entries of every sort at one version.
func shapes(v api.Ver) []api.Entry {
	return []api.Entry{write(v, "b", "1"), write(v, "a", "22"), erase(v, "b"), ask(v, "b"), {Ver: v, Kind: api.Barrier}}
}

// places are the versions of small tails: epochs rise within them, and numbers don't always.
func places() []api.Ver {
	return []api.Ver{version(1, 2), version(1, 3), version(2, 1), version(4, 4)}
}

// points are the versions of small tails, those between and those at both ends.
func points() []api.Ver {
	return []api.Ver{0, version(0, 9), version(1, 1), version(1, 2), version(1, 3), version(1, 9), version(2, 0), version(2, 1), version(3, 9), version(4, 4), version(4, 5), version(api.MaxCount, api.MaxCount)}
}

// smallTails hands out each tail of up to n entries of every sort, behind the floor 1 1.
func smallTails(n int, use func(t api.Tail)) {
	var from func(es []api.Entry)
	from = func(es []api.Entry) {
		use(tailOf(version(1, 1), es...))
		if len(es) < n {
			for _, e := range shapes(places()[len(es)]) {
				from(append(slices.Clone(es), e))
			}
		}
	}
	from(nil)
}

// dones are lists of what was flushed: of one key, of both, of others, of one key twice.
func dones() [][]api.Item {
	ds := [][]api.Item{nil, {}, {item("c", version(9, 9))}, {item("", version(9, 9))}}
	for _, v := range []api.Ver{0, version(1, 1), version(1, 2), version(1, 9), version(2, 1), version(9, 0)} {
		ds = append(ds,
			[]api.Item{item("a", v)}, []api.Item{item("b", v)}, []api.Item{item("b", v), item("a", version(1, 3))},
			[]api.Item{item("b", v), item("b", version(1, 3))}, []api.Item{item("b", version(9, 9)), item("a", version(2, 1)), item("b", v)})
	}
	return ds
}

func toldVer(v api.Ver) string { return strconv.FormatComplex(complex128(v), 'g', -1, 128) }

func toldText(s string) string {
	if len(s) > 20 {
		return strconv.Quote(s[:20]) + ".."
	}
	return strconv.Quote(s)
}

func toldEntry(e api.Entry) string {
	s := toldText(e.Key) + "@" + toldVer(e.Ver) + " " + strconv.Itoa(e.Kind)
	if e.Write {
		s += " write"
	}
	if e.Del {
		s += " del"
	}
	return s + " " + toldText(e.Val) + " " + strconv.Itoa(e.Sess) + "." + strconv.Itoa(e.Num) + " " + strconv.Itoa(e.Code) + " " + toldText(e.Res) + strconv.FormatBool(e.HasRes)
}

func toldList[T any](l []T, tell func(x T) string) string {
	s := strconv.Itoa(len(l)) + ":"
	for i, x := range l {
		if i == 12 {
			return s + " .."
		}
		s += " (" + tell(x) + ")"
	}
	return s
}

func toldEntries(l []api.Entry) string { return toldList(l, toldEntry) }

func toldItems(l []api.Item) string { return toldList(l, toldItem) }

func told(t api.Tail) string {
	return "floor " + toldVer(t.Floor) + ", last " + toldVer(t.Last) + ", " + toldEntries(t.Log)
}

func toldItem(x api.Item) string {
	return toldText(x.Key) + " " + toldText(x.Val) + " " + strconv.FormatBool(x.Has) + "@" + toldVer(x.Ver)
}

func check(t *testing.T, what string, got, want api.Tail) {
	t.Helper()
	if got.Floor != want.Floor || got.Last != want.Last || !slices.Equal(got.Log, want.Log) {
		t.Fatalf("%s: %s, not %s", what, told(got), told(want))
	}
}

func checkEntries(t *testing.T, what string, got, want []api.Entry) {
	t.Helper()
	if !slices.Equal(got, want) {
		t.Fatalf("%s: %s, not %s", what, toldEntries(got), toldEntries(want))
	}
}

func checkPush(t *testing.T, l api.Tail, e api.Entry, want bool) {
	t.Helper()
	got, ok := tail.Push(l, e)
	if ok != want {
		t.Fatalf("push of %s to %s: %v", toldEntry(e), told(l), ok)
	}
	next := l
	if want {
		next = api.Tail{Floor: l.Floor, Last: e.Ver, Log: append(slices.Clone(l.Log), e)}
	}
	check(t, "push of "+toldEntry(e), got, next)
}

func checkValue(t *testing.T, l api.Tail, key string) {
	t.Helper()
	got, ok := tail.Value(l, key)
	if want, there := valueBy(l, key); got != want || ok != there {
		t.Fatalf("%q of %s: %s, %v, not %s, %v", key, told(l), toldItem(got), ok, toldItem(want), there)
	}
}

func checkBatch(t *testing.T, l api.Tail, upto api.Ver, done []api.Item, most int) {
	t.Helper()
	got, want := tail.Batch(l, upto, done, most), batchBy(l, upto, done, most)
	if !slices.Equal(got, want) {
		t.Fatalf("batch up to %s, %s flushed, at most %d, of %s: %s, not %s", toldVer(upto), toldItems(done), most, told(l), toldEntries(got), toldEntries(want))
	}
}

func checkRise(t *testing.T, l api.Tail, upto api.Ver, done []api.Item, want api.Ver) {
	t.Helper()
	if got := tail.Rise(l, upto, done); got != want {
		t.Fatalf("rise up to %s, %s flushed, of %s: %s, not %s", toldVer(upto), toldItems(done), told(l), toldVer(got), toldVer(want))
	}
}
