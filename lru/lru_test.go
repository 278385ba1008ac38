package lru_test

import (
	"math"
	"slices"
	"strconv"
	"strings"
	"testing"

	"lockgate/api"
	"lockgate/lru"
)

// P12.1: the chapter's example, and the same without the Get.
func TestExample(t *testing.T) {
	l := lru.Put(lru.Put(nil, item("a", "1"), 6), item("b", "2"), 6)
	check(t, "a and b", l, []api.Item{item("a", "1"), item("b", "2")})
	x, got, ok := lru.Get(l, "a")
	if x != item("a", "1") || !ok {
		t.Fatalf("a: %s, %v", toldItem(x), ok)
	}
	check(t, "b goes", lru.Put(got, item("c", "3"), 6), []api.Item{item("a", "1"), item("c", "3")})
	check(t, "a goes", lru.Put(l, item("c", "3"), 6), []api.Item{item("b", "2"), item("c", "3")})
}

// P12.1: an item's size is the bytes, not the signs, of key and value, and 1, whether it has a value or tells that there is none.
func TestSize(t *testing.T) {
	checkSize(t, "nothing", nil, 0)
	checkSize(t, "nothing", []api.Item{}, 0)
	for _, c := range []struct {
		x    api.Item
		size int
	}{
		{api.Item{}, 1},
		{item("", ""), 1},
		{item("k", ""), 2},
		{item("", "v"), 2},
		{item("k", "v"), 3},
		{none("key"), 4},
		{api.Item{Key: "k", Val: "v"}, 3},
		{item("ä", "\xff\x00"), 5},
		{item("€", "𝄞"), 8},
		{item(strings.Repeat("k", api.MaxText), strings.Repeat("v", api.MaxText)), 2*api.MaxText + 1},
	} {
		checkSize(t, "one", []api.Item{c.x}, c.size)
		checkSize(t, "ahead of b", []api.Item{c.x, item("b", "12")}, c.size+4)
		checkSize(t, "behind b", []api.Item{item("b", "12"), c.x}, c.size+4)
		checkSize(t, "amid", []api.Item{item("b", "12"), c.x, item("c", "")}, c.size+6)
	}
	for n := range 30 {
		checkSize(t, "some", some(n), like(some(n)...).bytes())
	}
}

// P12.1: in each list of a few items, with each room from below 0 up to more than all, each item that is laid (a new one, one of each key that is there, longer, shorter, of nothing) stands at the end, and just as many go from the front as must.
func TestPut(t *testing.T) {
	for n := range 8 {
		l := some(n)
		for _, key := range keys(l) {
			for _, x := range []api.Item{item(key, ""), item(key, "new"), none(key), item(key, "as long as a few")} {
				for room := -2; room < like(l...).bytes()+len(x.Key+x.Val)+4; room++ {
					what := strconv.Itoa(n) + " items, " + toldItem(x) + ", room " + strconv.Itoa(room)
					check(t, what, lru.Put(l, x, room), like(l...).put(x, room).items())
				}
			}
		}
	}
}

// P12.1: an item that stands there is laid as it is now, all of it, even if it's as it was.
func TestPutAgain(t *testing.T) {
	a, b := item("a", "one"), item("b", "two")
	for _, x := range []api.Item{a, item("a", ""), none("a"), {Key: "a", Val: "one", Has: true, Ver: 7}, {Key: "a", Val: "one", Ver: a.Ver}, {Key: "a"}} {
		check(t, "ahead", lru.Put([]api.Item{a, b}, x, 100), []api.Item{b, x})
		check(t, "behind", lru.Put([]api.Item{b, a}, x, 100), []api.Item{b, x})
		check(t, "alone", lru.Put([]api.Item{a}, x, 100), []api.Item{x})
	}
}

// P12.1: the key's old item takes no room any more: for it nothing goes.
func TestPutInItsPlace(t *testing.T) {
	l := []api.Item{item("a", "12"), item("b", "12"), item("c", "12")}
	for at, x := range l {
		rest := slices.Delete(slices.Clone(l), at, at+1)
		check(t, "as long", lru.Put(l, item(x.Key, "34"), 12), append(slices.Clone(rest), item(x.Key, "34")))
		check(t, "longer", lru.Put(l, item(x.Key, "345"), 12), append(slices.Clone(rest[1:]), item(x.Key, "345")))
		check(t, "shorter", lru.Put(l, item(x.Key, "3"), 11), append(slices.Clone(rest), item(x.Key, "3")))
	}
}

// P12.1, P12.2: of what is as long as the room all stays; one byte less, and the first one goes.
func TestRoomEdge(t *testing.T) {
	for n := range 12 {
		l, x := some(n), item("new", "value")
		all := append(slices.Clone(l), x)
		room := like(all...).bytes()
		check(t, "just so much room", lru.Put(l, x, room), all)
		check(t, "one more", lru.Put(l, x, room+1), all)
		check(t, "one less", lru.Put(l, x, room-1), all[1:])
	}
}

// P12.1: an item that is greater than the room goes too, and all others ahead of it, even if the room was enough for these.
func TestTooGreat(t *testing.T) {
	for n := range 8 {
		for _, room := range []int{0, 1, 3, 50, 100} {
			x := item("x", strings.Repeat("v", room))
			check(t, "greater by 2", lru.Put(some(n), x, room), nil)
			x.Val = x.Val[:max(0, room-1)]
			if room > 0 {
				check(t, "greater by 1", lru.Put(some(n), x, room), nil)
			}
			if room > 1 {
				x.Val = x.Val[:room-2]
				check(t, "just as great", lru.Put(some(n), x, room), []api.Item{x})
			}
		}
	}
	check(t, "its key's old one goes too", lru.Put([]api.Item{item("x", "")}, item("x", "123"), 4), nil)
}

// P12.1, P12.2: below 0 there is no room for anything, not even for what has no bytes.
func TestNoRoom(t *testing.T) {
	for _, room := range []int{0, -1, -2, -1000, math.MinInt + 1, math.MinInt} {
		for n := range 8 {
			for _, x := range []api.Item{{}, item("", ""), item("a", "new"), none("z")} {
				check(t, "no room", lru.Put(some(n), x, room), nil)
			}
		}
	}
	for _, room := range []int{1 << 31, 1 << 32, math.MaxInt} {
		check(t, "room for all", lru.Put(some(12), none("z"), room), append(some(12), none("z")))
	}
	check(t, "room for the mark", lru.Put(nil, item("", ""), 1), []api.Item{item("", "")})
}

// P12.1: each key's item is got, whole, and stands last then; the others stay in their order.
func TestGet(t *testing.T) {
	for n := range 12 {
		l := some(n)
		for _, key := range keys(l) {
			checkGet(t, strconv.Itoa(n)+" items, "+brief(key), l, key, like(l...))
		}
	}
	x, l, ok := lru.Get([]api.Item{item("a", "1"), none("b"), item("c", "3")}, "b")
	if x != none("b") || !ok {
		t.Fatalf("b: %s, %v", toldItem(x), ok)
	}
	check(t, "b is last", l, []api.Item{item("a", "1"), item("c", "3"), none("b")})
}

// P12.1: of a key that isn't there nothing is got, and the list stays as it is.
func TestGetNone(t *testing.T) {
	for _, l := range [][]api.Item{nil, {}, {item("a", "")}} {
		x, rest, ok := lru.Get(l, "")
		if x != (api.Item{}) || ok {
			t.Fatalf("the empty key, of %s: %s, %v", told(l), toldItem(x), ok)
		}
		check(t, "as it was", rest, l)
	}
	for _, key := range []string{"A", "aaa", "kez", "k", "one", "", "b "} {
		l := []api.Item{item("b", "one"), none("key"), item("a", ""), item("aa", "b")}
		x, rest, ok := lru.Get(l, key)
		if x != (api.Item{}) || ok {
			t.Fatalf("%q: %s, %v", key, toldItem(x), ok)
		}
		check(t, "as it was", rest, l)
		check(t, "nothing out", lru.Out(l, key), l)
	}
}

// P12.1: each key's item is taken out; the others stay in their order.
func TestOut(t *testing.T) {
	for n := range 12 {
		l := some(n)
		for _, key := range keys(l) {
			check(t, strconv.Itoa(n)+" items, "+brief(key), lru.Out(l, key), like(l...).out(key).items())
		}
	}
	check(t, "a of a", lru.Out([]api.Item{item("a", "1")}, "a"), nil)
	check(t, "none of nothing", lru.Out(nil, ""), nil)
}

// P12.1: lists of as many items as there may be, and long texts, are no other ones.
func TestMany(t *testing.T) {
	l := some(api.MaxList)
	for i := range l {
		l[i].Val = strconv.Itoa(i)
	}
	all, x := lru.Size(l), item("new", "")
	checkSize(t, "many", l, like(l...).bytes())
	check(t, "room for all", lru.Put(l, x, all+4), append(slices.Clone(l), x))
	for _, n := range []int{1, 2, 2000, api.MaxList - 1, api.MaxList} {
		room := 4 + lru.Size(l[n:])
		check(t, "some go", lru.Put(l, x, room), append(slices.Clone(l[n:]), x))
	}
	for _, at := range []int{0, 1, 2047, api.MaxList - 1} {
		rest := slices.Delete(slices.Clone(l), at, at+1)
		check(t, "out", lru.Out(l, l[at].Key), rest)
		got, then, ok := lru.Get(l, l[at].Key)
		if got != l[at] || !ok {
			t.Fatalf("%d: %s, %v", at, toldItem(got), ok)
		}
		check(t, "last", then, append(rest, l[at]))
	}
	long := strings.Repeat("long ", 1<<20)
	check(t, "a long one", lru.Put(l, item("l", long), all+len(long)), append(slices.Clone(l[1:]), item("l", long)))
}

// P12.1: each version that chapter 1 knows stays as it is.
func TestVersions(t *testing.T) {
	for _, v := range []api.Ver{0, api.Ver(complex(1, 1)), api.Ver(complex(api.MaxCount, api.MaxCount)), api.Ver(complex(0, 7)), api.Ver(complex(5, 0))} {
		x := api.Item{Key: "k", Val: "v", Has: true, Ver: v}
		l := lru.Put([]api.Item{item("a", "1")}, x, 6)
		check(t, "laid", l, []api.Item{item("a", "1"), x})
		checkGet(t, "got", l, "k", like(l...))
		check(t, "the other one is out", lru.Out(l, "a"), []api.Item{x})
	}
}

// Of lists with two items of one key, and of items whose Ver is no version, nothing is promised, but that the calls end and don't panic.
func TestWrong(t *testing.T) {
	nan, inf := math.NaN(), math.Inf(1)
	for _, x := range []api.Item{{}, {Key: "a", Ver: api.Ver(complex(nan, nan))}, {Key: "a", Val: "v", Ver: api.Ver(complex(inf, -inf))}, {Ver: api.Ver(complex(-1, 0.5))}} {
		for _, l := range [][]api.Item{nil, {x}, {x, x}, {x, item("a", "b"), x}, {item("a", "1"), x, item("a", "2"), item("b", "3"), x}} {
			for _, room := range []int{-1, 0, 1, 5, 1000} {
				lru.Put(l, x, room)
			}
			for _, key := range []string{"", "a", "b"} {
				lru.Get(l, key)
				lru.Out(l, key)
			}
			lru.Size(l)
		}
	}
}
