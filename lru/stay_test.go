package lru_test

import (
	"slices"
	"strconv"
	"testing"

	"lockgate/api"
	"lockgate/lru"
)

// asked is a call of a list, and what the model answers to it.
type asked struct {
	what string
	call func(l []api.Item) []api.Item
	want func(m model) model
}

// calls are all calls that answer a list, of all its keys and of others, with little and with much room.
func calls(l []api.Item) []asked {
	var as []asked
	for _, key := range keys(l) {
		as = append(as, asked{
			"get " + brief(key),
			func(l []api.Item) []api.Item {
				_, rest, _ := lru.Get(l, key)
				return rest
			},
			func(m model) model {
				_, rest, _ := m.get(key)
				return rest
			},
		}, asked{
			"out " + brief(key),
			func(l []api.Item) []api.Item { return lru.Out(l, key) },
			func(m model) model { return m.out(key) },
		})
		for _, room := range []int{-1, 0, 3, 8, 12, 20, 30, 1000} {
			as = append(as, asked{
				"put " + brief(key) + ", room " + strconv.Itoa(room),
				func(l []api.Item) []api.Item { return lru.Put(l, item(key, "12"), room) },
				func(m model) model { return m.put(item(key, "12"), room) },
			})
		}
	}
	return as
}

// roomy is the list, with items behind its end that nobody may write over.
func roomy(l []api.Item) []api.Item {
	more := append(slices.Clone(l), item("behind", "the end"), item("and", "another one"))
	return more[:len(l)]
}

// whole is the list up to its capacity.
func whole(l []api.Item) []api.Item { return l[:cap(l)] }

// spoil writes over all of the list, up to its capacity.
func spoil(l []api.Item) {
	for i := range whole(l) {
		whole(l)[i] = item("spoilt", "all of it")
	}
}

// P12.3: what is handed in stays, also behind the list's end.
func TestHandedInStays(t *testing.T) {
	for n := range 8 {
		for _, c := range calls(some(n)) {
			l := roomy(some(n))
			was := slices.Clone(whole(l))
			check(t, c.what, c.call(l), c.want(like(some(n)...)).items())
			check(t, c.what+": handed in", whole(l), was)
			lru.Size(l)
			check(t, "size: handed in", whole(l), was)
		}
	}
}

// P12.3: what is answered is new memory: no answer becomes another one, whatever is written over what was handed in.
func TestAnswersApart(t *testing.T) {
	for n := range 8 {
		for _, c := range calls(some(n)) {
			l := roomy(some(n))
			got := c.call(l)
			spoil(l)
			check(t, c.what, got, c.want(like(some(n)...)).items())
		}
	}
}

// P12.3: whoever writes over an answer, or behind its end, or appends to it, changes nothing of what was handed in.
func TestAnswersSpoilt(t *testing.T) {
	for n := range 8 {
		for _, c := range calls(some(n)) {
			l := roomy(some(n))
			was := slices.Clone(whole(l))
			got := c.call(l)
			_ = append(got, item("more", ""))
			spoil(got)
			check(t, c.what+": handed in", whole(l), was)
		}
	}
}

// P12.3: of one list each call answers another memory, so that one answer may be written over, and the next one is as it should be.
func TestEachAnswerApart(t *testing.T) {
	for n := range 8 {
		for _, c := range calls(some(n)) {
			l := roomy(some(n))
			one, two := c.call(l), c.call(l)
			spoil(one)
			check(t, c.what, two, c.want(like(some(n)...)).items())
			check(t, c.what+", once more", c.call(l), c.want(like(some(n)...)).items())
		}
	}
}
