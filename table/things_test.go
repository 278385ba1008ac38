package table_test

import (
	"maps"
	"slices"
	"testing"

	"lockgate/api"
)

func version(epoch, num int) api.Ver {
	return api.Ver(complex(float64(epoch), float64(num)))
}

func row(key string, epoch, num int, val string) api.Row {
	return api.Row{Key: key, Ver: version(epoch, num), Val: val}
}

// gone is the row of a key that was deleted.
func gone(key string, epoch, num int) api.Row {
	return api.Row{Key: key, Ver: version(epoch, num), Del: true}
}

func put(key string, epoch, num int, val string) api.Entry {
	return api.Entry{Ver: version(epoch, num), Kind: api.Put, Key: key, Val: val, Write: true, Sess: 7, Num: 8}
}

// del has a value, which its row hasn't.
func del(key string, epoch, num int) api.Entry {
	return api.Entry{Ver: version(epoch, num), Kind: api.Delete, Key: key, Val: "rest", Write: true, Del: true, Sess: 7, Num: 8, Res: "was", HasRes: true}
}

func read(key string, epoch, num int) api.Entry {
	return api.Entry{Ver: version(epoch, num), Kind: api.Get, Key: key, Val: "read", Code: api.Good}
}

// rank is a version as one whole number: epochs and numbers of the tests are small.
func rank(v api.Ver) int { return 1000*int(real(v)) + int(imag(v)) }

// applied does one entry after the other, as the chapter tells it.
func applied(l []api.Row, floor api.Ver, es []api.Entry) []api.Row {
	rows := map[string]api.Row{}
	for _, r := range l {
		rows[r.Key] = r
	}
	for _, e := range es {
		if !e.Write || rank(e.Ver) <= rank(floor) {
			continue
		}
		if r, ok := rows[e.Key]; ok && rank(r.Ver) >= rank(e.Ver) {
			continue
		}
		r := api.Row{Key: e.Key, Ver: e.Ver, Val: e.Val}
		if e.Del {
			r.Val, r.Del = "", true
		}
		rows[e.Key] = r
	}
	var want []api.Row
	for _, key := range slices.Sorted(maps.Keys(rows)) {
		want = append(want, rows[key])
	}
	return want
}

// roomy is the list, with rows behind its end that nobody may write over.
func roomy(l []api.Row) (list, all []api.Row) {
	all = append(slices.Clone(l), row("behind", 9, 9, "the end"), row("behind", 9, 9, "it, too"), row("behind", 9, 9, "all"))
	return all[:len(l)], all
}

// spoil writes over all that a list has, up to its capacity.
func spoil(l []api.Row) {
	l = l[:cap(l)]
	for i := range l {
		l[i] = row("spoilt", 99, 99, "spoilt")
	}
}

func check(t *testing.T, what string, got, want []api.Row) {
	t.Helper()
	if !slices.Equal(got, want) {
		t.Fatalf("%s: %v, not %v", what, got, want)
	}
}
