package store_test

import (
	"reflect"
	"slices"
	"testing"

	"lockgate/api"
	"lockgate/msg"
	"lockgate/store"
)

// roomy is the entries, with some behind their end that nobody may write over.
func roomy(es ...api.Entry) (list, all []api.Entry) {
	all = append(slices.Clone(es), put("behind", 9, 9, "the end"), put("behind", 9, 9, "it, too"))
	return all[:len(es)], all
}

// spoil writes over all that a list has, up to its capacity.
func spoil(l []api.Row) {
	l = l[:cap(l)]
	for i := range l {
		l[i] = row("spoilt", 99, 99, "spoilt")
	}
}

// P10.4: a message that is handed in stays, also behind its lists' ends; a change of it isn't in the store, or in the answer.
func TestMessageStays(t *testing.T) {
	for _, m := range []api.Msg{fence(0, 1), flush(0, 0, 1, version(1, 0), put("c", 1, 1, "x"), del("a", 1, 2), get("b", 1, 3), put("c", 1, 4, "y")), flush(0, 9, 1, 0, put("c", 9, 9, "x")), read(0, 0, 1, "k")} {
		w := newTwin(t, 1)
		w.tell(t, "rows", flush(0, 0, 1, 0, put("k", 1, 1, "v")))
		m = noisy(m)
		list, all := roomy(m.Entries...)
		m.Entries = list
		was, bytes := slices.Clone(all), msg.Put(m)
		l, e := w.s.Handle(m)
		if e != api.OK || !slices.Equal(all, was) || !slices.Equal(msg.Put(m), bytes) {
			t.Fatalf("%s became another one, error %d", told(m), e)
		}
		want, _ := w.byHand(m)
		for i := range all {
			all[i] = put("spoilt", 99, 99, "spoilt")
		}
		for _, list := range []reflect.Value{reflect.ValueOf(m.Chain), reflect.ValueOf(m.Views), reflect.ValueOf(m.Image.Log), reflect.ValueOf(m.Image.Seen)} {
			for i := range list.Len() {
				list.Index(i).SetZero()
			}
		}
		if !sameMsgs(l, want) {
			t.Fatalf("the answer became %s", told(l...))
		}
		w.check(t, "behind the message's change")
	}
}

// P10.4: an answer is new memory, up to its capacity.
func TestAnswersApart(t *testing.T) {
	w := newTwin(t, 1)
	w.tell(t, "rows", flush(0, 0, 1, 0, put("k", 1, 1, "v")))
	for _, m := range []api.Msg{fence(0, 0), flush(0, 9, 1, 0), read(0, 0, 1, "k"), flush(0, 0, 2, 0), fence(0, 1), fence(0, 1)} {
		want, _ := w.x.answers(m)
		one, _ := w.s.Handle(m)
		w.byHand(m)
		kept := slices.Clone(one)
		two, _ := w.s.Handle(read(0, 0, 1, "k"))
		two = two[:cap(two)]
		for i := range two {
			two[i] = full()
		}
		if !sameMsgs(one, kept) || !sameMsgs(one, want) {
			t.Fatalf("an answer became %s", told(one...))
		}
		one = one[:cap(one)]
		for i := range one {
			one[i] = full()
		}
		w.check(t, "behind the answer's change")
	}
}

// P10.4: rows are new memory, up to their capacity: whoever writes over them changes neither the store nor other rows; what the store does later isn't in them.
func TestRowsApart(t *testing.T) {
	m := flush(0, 0, 1, 0, put("k", 1, 1, "v"), put("a", 1, 2, ""), del("b", 1, 3), put("z", 1, 4, "zz"))
	told := newTwin(t, 2)
	told.tell(t, "rows", m)
	x := newModel(2)
	x.do(m)
	for _, w := range []*twin{told, opened(t, "of a picture", laid(t, x.picture()), x.clone()), opened(t, "of a record", laid(t, nil, msg.Put(m)), x.clone())} {
		one, two := w.s.Rows(0), w.s.Rows(0)
		want := slices.Clone(one)
		spoil(one)
		w.check(t, "behind the rows' change")
		if !slices.Equal(two, want) {
			t.Fatalf("other rows became %s", short(two))
		}
		three := w.s.Rows(0)
		w.tell(t, "more", flush(0, 0, 2, version(1, 3), put("k", 2, 1, "w"), put("a", 2, 2, "x"), put("c", 2, 3, "")))
		if !slices.Equal(two, want) || !slices.Equal(three, want) {
			t.Fatalf("rows of before became %s", short(two))
		}
		spoil(two)
		spoil(three)
		w.check(t, "behind their change")
	}
}

// P10.4: asking changes neither the store nor its disk; a store keeps nothing of another one.
func TestAskingStays(t *testing.T) {
	d := laid(t, some().picture(), msg.Put(fence(0, 9)))
	x := some()
	x.do(fence(0, 9))
	w := opened(t, "one", d, x.clone())
	was := w.d.Clone()
	for shard := -1; shard < 4; shard++ {
		w.s.Fence(shard)
		w.s.Floor(shard)
		w.s.Rows(shard)
	}
	checkDisk(t, "asked", w.d, was)
	other, e := store.Open(was, 3)
	if e != api.OK {
		t.Fatal(e)
	}
	w.tell(t, "the one goes on", flush(0, 9, 1, version(9, 0), put("k", 9, 1, "v")))
	checkStore(t, "the other one", other, x)
}
