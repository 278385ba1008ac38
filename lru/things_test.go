package lru_test

import (
	"cmp"
	"maps"
	"slices"
	"strconv"
	"strings"
	"testing"

	"lockgate/api"
	"lockgate/lru"
)

// touched is an item, and when it was laid or asked for last.
type touched struct {
	item api.Item
	when int
}

// model is a list as a map of what each key has, with a time that goes on at each touch; none is ever changed.
type model struct {
	now  int
	keys map[string]touched
}

func (m model) touch(x api.Item) model {
	keys := map[string]touched{}
	maps.Copy(keys, m.keys)
	keys[x.Key] = touched{x, m.now + 1}
	return model{m.now + 1, keys}
}

func (m model) out(key string) model {
	keys := map[string]touched{}
	for k, x := range m.keys {
		if k != key {
			keys[k] = x
		}
	}
	return model{m.now, keys}
}

func (m model) put(x api.Item, room int) model {
	m = m.touch(x)
	for len(m.keys) > 0 && m.bytes() > room {
		m = m.out(m.items()[0].Key)
	}
	return m
}

func (m model) get(key string) (api.Item, model, bool) {
	x, ok := m.keys[key]
	if !ok {
		return api.Item{}, m, false
	}
	return x.item, m.touch(x.item), true
}

// items are what the model has, what wasn't touched for longest ahead.
func (m model) items() []api.Item {
	var l []api.Item
	for _, x := range slices.SortedFunc(maps.Values(m.keys), func(a, b touched) int { return cmp.Compare(a.when, b.when) }) {
		l = append(l, x.item)
	}
	return l
}

// bytes is the size, as a text's that has all bytes, and one more an item.
func (m model) bytes() int {
	var b strings.Builder
	for _, x := range m.keys {
		b.WriteString(x.item.Key + x.item.Val + ";")
	}
	return b.Len()
}

// like is the model of a list.
func like(l ...api.Item) model {
	m := model{len(l), map[string]touched{}}
	for i, x := range l {
		m.keys[x.Key] = touched{x, i}
	}
	return m
}

// item is the key's value.
func item(key, val string) api.Item {
	return api.Item{Key: key, Val: val, Has: true, Ver: api.Ver(complex(3, float64(len(val)+1)))}
}

// none tells that there is nothing of the key.
func none(key string) api.Item { return api.Item{Key: key, Ver: api.Ver(complex(2, 9))} }

// some is a list of n items, each of another size: one has no bytes but its mark, one no value, one of nothing; one's bytes aren't UTF-8.
func some(n int) []api.Item {
	l := []api.Item{item("b", "one"), none("key"), item("", ""), item("a", ""), item("ä\xff", "zwölf"), item("aa", "b\x00"), item("c", "a longer text")}
	for i := len(l); i < n; i++ {
		l = append(l, item("k"+strconv.Itoa(i), strings.Repeat("v", i)))
	}
	return slices.Clone(l[:n])
}

// keys are the list's keys, and some that it hasn't; one of those begins as one of its own does.
func keys(l []api.Item) []string {
	var ks []string
	for _, x := range l {
		ks = append(ks, x.Key)
	}
	return append(ks, "z", "bb", "one", "ke", "B", "b\x00")
}

func told(l []api.Item) string {
	s := strconv.Itoa(len(l)) + ":"
	for i, x := range l {
		if i == 20 {
			return s + " .."
		}
		s += " " + toldItem(x)
	}
	return s
}

func toldItem(x api.Item) string {
	s := brief(x.Key) + "=" + brief(x.Val)
	if !x.Has {
		s += "(none)"
	}
	return s + "@" + strconv.FormatComplex(complex128(x.Ver), 'g', -1, 128)
}

func brief(text string) string {
	if len(text) > 40 {
		return strconv.Itoa(len(text)) + " bytes"
	}
	return strconv.Quote(text)
}

func check(t *testing.T, what string, got, want []api.Item) {
	t.Helper()
	if !slices.Equal(got, want) {
		t.Fatalf("%s: %s, not %s", what, told(got), told(want))
	}
}

func checkGet(t *testing.T, what string, l []api.Item, key string, m model) {
	t.Helper()
	x, rest, ok := lru.Get(l, key)
	want, then, there := m.get(key)
	if x != want || ok != there {
		t.Fatalf("%s: %s, %v, not %s, %v", what, toldItem(x), ok, toldItem(want), there)
	}
	check(t, what, rest, then.items())
}

func checkSize(t *testing.T, what string, l []api.Item, want int) {
	t.Helper()
	if got := lru.Size(l); got != want {
		t.Fatalf("%s, %s: size %d, not %d", what, told(l), got, want)
	}
}
