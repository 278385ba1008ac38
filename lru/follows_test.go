package lru_test

import (
	"math/rand"
	"slices"
	"strconv"
	"strings"
	"testing"

	"lockgate/api"
	"lockgate/lru"
)

// life is a list, the model that it is held against, and in which step each key was laid or got last.
type life struct {
	l    []api.Item
	m    model
	last map[string]int
	now  int
}

func anyItem(r *rand.Rand, key string) api.Item {
	if r.Intn(5) == 0 {
		return none(key)
	}
	return item(key, strings.Repeat("v", r.Intn(1+r.Intn(30))))
}

// step does one call, chosen by chance, of the list and of the model.
func (f *life) step(t *testing.T, r *rand.Rand, room int) {
	t.Helper()
	f.now++
	key := "key"[:r.Intn(4)] + strconv.Itoa(r.Intn(12))
	switch r.Intn(6) {
	case 0, 1, 2:
		x := anyItem(r, key)
		was := f.l
		f.l, f.m = lru.Put(f.l, x, room), f.m.put(x, room)
		f.last[key] = f.now
		f.went(t, was, x, room)
	case 3, 4:
		checkGet(t, "got", f.l, key, f.m)
		_, l, ok := lru.Get(f.l, key)
		_, m, _ := f.m.get(key)
		f.l, f.m = l, m
		if ok {
			f.last[key] = f.now
		}
	case 5:
		f.l, f.m = lru.Out(f.l, key), f.m.out(key)
	}
}

// went holds what is left behind a Put against what was there: it takes no more than the room; what went wasn't laid or got since all that is left was; and none went for which there was room.
func (f *life) went(t *testing.T, was []api.Item, x api.Item, room int) {
	t.Helper()
	if got := lru.Size(f.l); got > max(room, 0) {
		t.Fatalf("behind a Put of %s: size %d, room %d", toldItem(x), got, room)
	}
	latest := -1
	var gone api.Item
	for _, w := range append(slices.Clone(was), x) {
		stays := slices.ContainsFunc(f.l, func(y api.Item) bool { return y.Key == w.Key })
		if !stays && f.last[w.Key] >= latest {
			latest, gone = f.last[w.Key], w
			if w.Key == x.Key {
				gone = x
			}
		}
	}
	for _, y := range f.l {
		if f.last[y.Key] <= latest {
			t.Fatalf("%s went (%d), and %s stays (%d)", toldItem(gone), latest, toldItem(y), f.last[y.Key])
		}
	}
	if latest >= 0 && lru.Size(append(slices.Clone(f.l), gone)) <= max(room, 0) {
		t.Fatalf("%s went, of %s, room %d", toldItem(gone), told(was), room)
	}
}

// P12.1, P12.2: in long lives of all kinds of calls, with a room that stays or becomes another one, each answer is the model's; one key has one item at most; and what goes from the front is what wasn't laid or got for longest.
func TestLives(t *testing.T) {
	for seed := range 200 {
		r := rand.New(rand.NewSource(int64(seed)))
		f := &life{last: map[string]int{}}
		room := r.Intn(200)
		for range 300 {
			if seed%2 == 1 && r.Intn(10) == 0 {
				room = r.Intn(260) - 5
			}
			f.step(t, r, room)
			check(t, "behind a step", f.l, f.m.items())
			checkSize(t, "behind a step", f.l, f.m.bytes())
			for i, x := range f.l {
				if slices.ContainsFunc(f.l[:i], func(y api.Item) bool { return y.Key == x.Key }) {
					t.Fatalf("two items of %q: %s", x.Key, told(f.l))
				}
			}
		}
	}
}

// P12.2: whatever of a full list was got, in whatever order, goes behind all that weren't, the one that was got first ahead.
func TestGotGoLater(t *testing.T) {
	start := []api.Item{item("a", "1"), item("b", "1"), item("c", "1"), item("d", "1")}
	news := []api.Item{item("n0", ""), item("n1", ""), item("n2", ""), item("n3", "")}
	for row := range 5 * 5 * 5 {
		l, order := start, start
		for k := row; k > 0; k /= 5 {
			if k%5 == 0 {
				continue
			}
			x := start[k%5-1]
			_, l, _ = lru.Get(l, x.Key)
			order = append(slices.DeleteFunc(slices.Clone(order), func(y api.Item) bool { return y.Key == x.Key }), x)
		}
		for k := range news {
			check(t, "got "+strconv.Itoa(row), l, append(slices.Clone(order[k:]), news[:k]...))
			l = lru.Put(l, news[k], 12)
		}
		check(t, "all went", l, news)
	}
}

// P12.1: asking for what isn't there, taking out what isn't, and the size touch nothing: what goes stays the same.
func TestAskingForNone(t *testing.T) {
	l := []api.Item{item("a", "1"), item("b", "2")}
	_, asked, _ := lru.Get(l, "z")
	asked = lru.Out(asked, "z")
	lru.Size(asked)
	check(t, "a goes", lru.Put(asked, item("c", "3"), 6), []api.Item{item("b", "2"), item("c", "3")})
}

// P12.1: what a call answers hangs on its arguments alone: lists go on apart from one another.
func TestApart(t *testing.T) {
	l := lru.Put(lru.Put(lru.Put(nil, item("a", "1"), 100), item("b", "2"), 100), item("c", "3"), 100)
	was := slices.Clone(l)
	one, two := lru.Put(l, item("d", "4"), 9), lru.Put(l, item("e", "5"), 9)
	check(t, "the one", lru.Put(one, item("f", ""), 9), []api.Item{item("c", "3"), item("d", "4"), item("f", "")})
	check(t, "the other one", lru.Put(two, item("g", ""), 9), []api.Item{item("c", "3"), item("e", "5"), item("g", "")})
	check(t, "the one, as it was", one, []api.Item{item("b", "2"), item("c", "3"), item("d", "4")})
	check(t, "the other one, as it was", two, []api.Item{item("b", "2"), item("c", "3"), item("e", "5")})
	for range 3 {
		check(t, "again", lru.Out(l, "b"), []api.Item{item("a", "1"), item("c", "3")})
		check(t, "the list itself", l, was)
	}
}
