package store_test

import (
	"bytes"
	"math"
	"slices"
	"strconv"
	"strings"
	"testing"

	"lockgate/api"
	"lockgate/disk"
	"lockgate/frame"
	"lockgate/msg"
	"lockgate/store"
)

// The chapter's example.
func TestExample(t *testing.T) {
	s, e := store.Open(disk.New(), 1)
	if e != api.OK {
		t.Fatal(e)
	}
	for _, c := range []struct{ tell, want api.Msg }{
		{api.Msg{Kind: api.Fence, From: 1, Epoch: 1}, api.Msg{Kind: api.Fenced, To: 1, Epoch: 1}},
		{api.Msg{Kind: api.Flush, From: 2, SBoot: 5, Num: 7}, api.Msg{Kind: api.Flushed, To: 2, Boot: 5, Num: 7, Code: int(api.ErrOld)}},
		{api.Msg{Kind: api.Flush, From: 2, SBoot: 5, Num: 8, Epoch: 1}, api.Msg{Kind: api.Flushed, To: 2, Boot: 5, Num: 8, Epoch: 1}},
	} {
		if l, e := s.Handle(c.tell); e != api.OK || !sameMsgs(l, []api.Msg{c.want}) {
			t.Errorf("%s: %s, error %d", told(c.tell), told(l...), e)
		}
	}
}

// asked is a message, what of it is answered (who it is from and to is the same of all), and what the shard has then.
type asked struct {
	what string
	m    api.Msg
	want api.Msg
	now  part
}

// play tells one store the messages, each as it is and noisy, and asks for each answer, and for what the store has.
func play(t *testing.T, shards, shard int, rows []asked) {
	t.Helper()
	for _, as := range []func(api.Msg) api.Msg{func(m api.Msg) api.Msg { return m }, noisy} {
		w := newTwin(t, shards)
		for _, c := range rows {
			m := as(c.m)
			want := c.want
			want.Shard, want.From, want.To, want.Boot = m.Shard, m.To, m.From, m.SBoot
			l, e := w.s.Handle(m)
			if e != api.OK || !sameMsgs(l, []api.Msg{want}) {
				t.Fatalf("%s: %s, error %d, not %s", c.what, told(l...), e, told(want))
			}
			w.byHand(m)
			w.check(t, c.what)
			if x := w.x[shard]; x.fence != c.now.fence || x.floor != c.now.floor || len(x.rows) != len(c.now.rows) {
				t.Fatalf("%s: %v, not %v", c.what, x, c.now)
			}
			x := newModel(shards)
			x[shard] = c.now
			checkStore(t, c.what, w.s, x)
		}
	}
}

func rowsOf(l ...api.Row) map[string]api.Row {
	rows := map[string]api.Row{}
	for _, r := range l {
		rows[r.Key] = r
	}
	return rows
}

// P10.2: a Fence raises the fence, if its epoch is more, and tells it.
func TestFence(t *testing.T) {
	fenced := func(epoch int) api.Msg { return api.Msg{Kind: api.Fenced, Epoch: epoch} }
	for shard := range 3 {
		play(t, 3, shard, []asked{
			{"of 0 at first", fence(shard, 0), fenced(0), part{}},
			{"below 0", fence(shard, -1), fenced(0), part{}},
			{"least of all", fence(shard, math.MinInt), fenced(0), part{}},
			{"one more", fence(shard, 1), fenced(1), part{fence: 1}},
			{"the same", fence(shard, 1), fenced(1), part{fence: 1}},
			{"less", fence(shard, 0), fenced(1), part{fence: 1}},
			{"below 0 then", fence(shard, -7), fenced(1), part{fence: 1}},
			{"many more", fence(shard, 9), fenced(9), part{fence: 9}},
			{"one less", fence(shard, 8), fenced(9), part{fence: 9}},
			{"one more again", fence(shard, 10), fenced(10), part{fence: 10}},
			{"as many as there may be", fence(shard, api.MaxCount), fenced(api.MaxCount), part{fence: api.MaxCount}},
			{"one less than these", fence(shard, api.MaxCount-1), fenced(api.MaxCount), part{fence: api.MaxCount}},
		})
	}
}

// P10.2: a Flush of the fence's epoch is done, and answered; of another one it isn't done.
func TestFlush(t *testing.T) {
	done := func(epoch, num int) api.Msg { return api.Msg{Kind: api.Flushed, Epoch: epoch, Num: num} }
	old := func(epoch, num int) api.Msg {
		return api.Msg{Kind: api.Flushed, Epoch: epoch, Num: num, Code: int(api.ErrOld)}
	}
	a, a2, b := row("a", 1, 1, "x"), row("a", 2, 3, "y"), row("b", 2, 2, "")
	for shard := range 2 {
		play(t, 2, shard, []asked{
			{"of the first epoch, of nothing", flush(shard, 0, 3, 0), done(0, 3), part{}},
			{"of one behind", flush(shard, 1, 4, version(9, 9), put("a", 1, 1, "x")), old(1, 4), part{}},
			{"of one below 0", flush(shard, -1, 5, version(9, 9), put("a", 1, 1, "x")), old(-1, 5), part{}},
			{"a row", flush(shard, 0, 6, 0, put("a", 1, 1, "x")), done(0, 6), part{0, 0, rowsOf(a)}},
			{"twice", flush(shard, 0, 6, 0, put("a", 1, 1, "other")), done(0, 6), part{0, 0, rowsOf(a)}},
			{"the fence", fence(shard, 2), api.Msg{Kind: api.Fenced, Epoch: 2}, part{2, 0, rowsOf(a)}},
			{"of an epoch that is over", flush(shard, 0, 7, version(9, 9), put("a", 1, 2, "y")), old(0, 7), part{2, 0, rowsOf(a)}},
			{"of another one", flush(shard, 1, 8, version(9, 9), put("a", 1, 2, "y")), old(1, 8), part{2, 0, rowsOf(a)}},
			{"of one to come", flush(shard, 3, 9, version(9, 9), put("a", 1, 2, "y")), old(3, 9), part{2, 0, rowsOf(a)}},
			{"of this one", flush(shard, 2, -10, 0, put("b", 2, 2, ""), put("a", 2, 3, "y"), get("c", 2, 4)), done(2, -10), part{2, 0, rowsOf(a2, b)}},
			{"a floor", flush(shard, 2, 11, version(2, 3)), done(2, 11), part{2, version(2, 3), rowsOf(a2, b)}},
			{"a floor ahead", flush(shard, 2, 12, version(1, 9)), done(2, 12), part{2, version(2, 3), rowsOf(a2, b)}},
			{"not behind the floor", flush(shard, 2, 0, 0, put("c", 2, 3, "z"), del("b", 2, 3)), done(2, 0), part{2, version(2, 3), rowsOf(a2, b)}},
			{"not behind the floor that comes with it", flush(shard, 2, 14, version(2, 5), put("c", 2, 5, "z"), put("b", 2, 4, "z")), done(2, 14), part{2, version(2, 5), rowsOf(a2, b)}},
			{"deleted", flush(shard, 2, 15, 0, del("a", 2, 6)), done(2, 15), part{2, version(2, 5), rowsOf(gone("a", 2, 6), b)}},
			{"deleted, and more", flush(shard, 2, 16, version(2, 5), del("b", 2, 7), put("c", 2, 8, "z")), done(2, 16), part{2, version(2, 5), rowsOf(gone("a", 2, 6), gone("b", 2, 7), row("c", 2, 8, "z"))}},
			{"collected", flush(shard, 2, 17, version(2, 6)), done(2, 17), part{2, version(2, 6), rowsOf(gone("b", 2, 7), row("c", 2, 8, "z"))}},
			{"it doesn't come back", flush(shard, 2, 18, 0, put("a", 2, 6, "y")), done(2, 18), part{2, version(2, 6), rowsOf(gone("b", 2, 7), row("c", 2, 8, "z"))}},
			{"deleted behind the floor", flush(shard, 2, 19, version(2, 8), del("c", 2, 9)), done(2, 19), part{2, version(2, 8), rowsOf(gone("c", 2, 9))}},
			{"written anew", flush(shard, 2, 20, version(2, 9), put("c", 2, 10, "new"), put("b", 2, 10, "too")), done(2, 20), part{2, version(2, 9), rowsOf(row("c", 2, 10, "new"), row("b", 2, 10, "too"))}},
		})
	}
}

// P10.2: a Read of whatever epoch tells the key's row, and changes nothing.
func TestRead(t *testing.T) {
	value := func(epoch, num int, key string) api.Msg {
		return api.Msg{Kind: api.Value, Epoch: epoch, Num: num, Key: key}
	}
	has := func(m api.Msg, v api.Ver, val string) api.Msg {
		m.Has, m.Ver, m.Val = true, v, val
		return m
	}
	deleted := value(3, 9, "c")
	deleted.Ver = version(3, 7)
	x := some()[0]
	if x.rows["c"] != gone("c", 3, 7) {
		t.Fatal(x)
	}
	rows := []asked{
		{"of no rows", read(0, 0, 1, "a"), value(0, 1, "a"), part{}},
		{"of no rows, no key", read(0, 5, 2, ""), value(5, 2, ""), part{}},
		{"the fence", fence(0, 3), api.Msg{Kind: api.Fenced, Epoch: 3}, part{fence: 3}},
		{"rows", flush(0, 3, 1, version(2, 4), put("b", 2, 5, "bb"), put("a", 3, 6, ""), del("c", 3, 7), put("\xff", 2, 9, "z"), put("", 2, 8, "no key")), api.Msg{Kind: api.Flushed, Epoch: 3, Num: 1}, x},
		{"a value", read(0, 3, 7, "b"), has(value(3, 7, "b"), version(2, 5), "bb"), x},
		{"an empty value", read(0, 3, 8, "a"), has(value(3, 8, "a"), version(3, 6), ""), x},
		{"deleted", read(0, 3, 9, "c"), deleted, x},
		{"the last one", read(0, 3, 10, "\xff"), has(value(3, 10, "\xff"), version(2, 9), "z"), x},
		{"no key", read(0, 3, -11, ""), has(value(3, -11, ""), version(2, 8), "no key"), x},
		{"of an epoch that is over", read(0, 2, 12, "b"), has(value(2, 12, "b"), version(2, 5), "bb"), x},
		{"of one to come", read(0, 99, 13, "b"), has(value(99, 13, "b"), version(2, 5), "bb"), x},
		{"of one below 0", read(0, -1, 14, "b"), has(value(-1, 14, "b"), version(2, 5), "bb"), x},
		{"between", read(0, 3, 15, "bb"), value(3, 15, "bb"), x},
		{"behind all", read(0, 3, 16, "\xff\x00"), value(3, 16, "\xff\x00"), x},
		{"of the other shard", read(1, 3, 17, "b"), value(3, 17, "b"), x},
	}
	play(t, 2, 0, rows)
}

// P10.2: a shard has its own fence, floor and rows.
func TestShards(t *testing.T) {
	w := newTwin(t, api.MaxShards)
	for shard := range api.MaxShards {
		w.tell(t, "fence", fence(shard, shard+1))
		w.tell(t, "flush", flush(shard, shard+1, shard, version(shard, 0), put("k", shard, 1, strconv.Itoa(shard)), put(strconv.Itoa(shard), shard, 2, "own")))
	}
	for shard := range api.MaxShards {
		w.tell(t, "an old flush", flush(shard, shard, 1, 0, put("k", 99, 1, "no")))
		w.tell(t, "read", read(shard, 0, 1, "k"))
		w.tell(t, "read", read(shard, 0, 1, "3"))
	}
	w.reopened(t, "behind it", 0, 0)
}

// P10.2: nothing is answered to other Kinds, and to shards that there aren't.
func TestNoAnswer(t *testing.T) {
	w := newTwin(t, 2)
	w.tell(t, "rows", flush(1, 0, 1, 0, put("a", 1, 1, "x")))
	for kind := -3; kind < 50; kind++ {
		for _, m := range []api.Msg{fence(1, 9), flush(1, 0, 1, version(2, 2), put("b", 3, 3, "y")), read(1, 0, 1, "a"), full()} {
			m.Kind, m.Shard = kind, 1
			if kind != api.Fence && kind != api.Flush && kind != api.Read {
				w.refuse(t, "of another Kind", m)
			}
		}
	}
	for _, shard := range []int{-1, 2, 3, 15, 16, 17, math.MaxInt, math.MinInt, 1 << 32, 1<<32 + 1} {
		for _, m := range []api.Msg{fence(shard, 9), flush(shard, 0, 1, version(2, 2), put("b", 3, 3, "y")), read(shard, 0, 1, "a")} {
			w.refuse(t, "of no shard", m)
			w.refuse(t, "of no shard", noisy(m))
		}
	}
}

func notVersions() []api.Ver {
	l := []api.Ver{version(api.MaxCount+1, 0), version(0, api.MaxCount+1), version(-1, 0), version(0, -1), 0.5, 0.5i, 2.25 + 1i}
	for _, x := range []float64{math.NaN(), math.Inf(1), math.Inf(-1), math.MaxFloat64, math.SmallestNonzeroFloat64} {
		l = append(l, api.Ver(complex(x, 0)), api.Ver(complex(0, x)))
	}
	return l
}

// P10.2: nothing is answered to messages of which a version is none.
func TestNoVersions(t *testing.T) {
	w := newTwin(t, 1)
	w.tell(t, "rows", flush(0, 0, 1, 0, put("a", 1, 1, "x")))
	for _, v := range notVersions() {
		for at := range 9 {
			for _, m := range []api.Msg{fence(0, 9), fence(0, 0), flush(0, 0, 1, version(2, 2), put("b", 3, 3, "y"), put("c", 3, 4, "z"), get("d", 3, 5)), flush(0, 7, 1, 0), read(0, 0, 1, "a")} {
				m = noisy(m)
				m.Entries = append(slices.Clone(m.Entries), get("last", 3, 3))
				places := []*api.Ver{&m.Ver, &m.Floor, &m.Entries[0].Ver, &m.Entries[len(m.Entries)/2].Ver, &m.Entries[len(m.Entries)-1].Ver, &m.Image.Floor, &m.Image.Last, &m.Image.Log[1].Ver, &m.Image.Seen[1].Ver}
				*places[at] = v
				w.refuse(t, "place "+strconv.Itoa(at), m)
			}
		}
	}
	// These are some.
	w.tell(t, "the greatest", flush(0, 0, 1, version(api.MaxCount, api.MaxCount-1), put("b", api.MaxCount, api.MaxCount, "y")))
	minus := flush(0, 0, 1, 0)
	minus.Floor, minus.Ver = api.Ver(complex(math.Copysign(0, -1), math.Copysign(0, -1))), api.Ver(complex(1, math.Copysign(0, -1)))
	w.tell(t, "minus nothing", minus)
	w.reopened(t, "behind it", 0, 0)
}

// tooGreat are messages that have no bytes by which they could be opened again.
func tooGreat() []api.Msg {
	long := strings.Repeat("l", api.MaxText+1)
	e := put("b", 3, 3, "y")
	k, v, r := e, e, get("b", 3, 4)
	k.Key, v.Val, r.Res = long, long, long
	var l []api.Msg
	for _, m := range []api.Msg{fence(0, 9), flush(0, 0, 1, version(2, 2), e)} {
		for range 9 {
			l = append(l, m)
		}
		x := l[len(l)-9:]
		x[0].Key, x[1].Val, x[2].Op.Key, x[3].Op.Val, x[4].Op.Old = long, long, long, long, long
		x[5].Chain = make([]api.Member, api.MaxList+1)
		x[6].Views = make([]api.View, api.MaxList+1)
		x[7].Image.Log = make([]api.Entry, api.MaxList+1)
		x[8].Image.Seen = make([]api.Seen, api.MaxList+1)
	}
	many := make([]api.Entry, api.MaxList+1)
	many[0] = e
	l = append(l, flush(0, 0, 1, 0, k), flush(0, 0, 1, 0, v, e), flush(0, 0, 1, 0, e, r), flush(0, 0, 1, 0, many...))
	return append(l, sized(0, 0, api.MaxFrame+1), sized(0, 0, api.MaxFrame+api.MaxText))
}

// sized is a Flush whose record has so many bytes, some millions.
func sized(shard, epoch, bytes int) api.Msg {
	m := flush(shard, epoch, 1, 0)
	val := strings.Repeat("v", 40000)
	for n := range (bytes - 20000) / 40020 {
		m.Entries = append(m.Entries, put("key "+strconv.Itoa(1000+n), 1, 100+n, val))
	}
	// Of texts between these lengths the lengths have as many bytes.
	last := put("last", 1, 99, val[:8192])
	m.Entries = append(m.Entries, last)
	rest := bytes - len(msg.Put(m))
	m.Entries[len(m.Entries)-1].Val = strings.Repeat("v", 8192+rest)
	return m
}

// P10.2, P10.3: what couldn't be opened again isn't taken: neither is it lost, nor what comes behind it. Up to the bounds all is.
func TestBounds(t *testing.T) {
	w := newTwin(t, 1)
	w.tell(t, "rows", flush(0, 0, 1, 0, put("a", 1, 1, "x")))
	for _, m := range tooGreat() {
		w.refuse(t, "too great", m)
	}
	most := strings.Repeat("m", api.MaxText)
	long := put(most, 3, 3, most)
	long.Res = most
	w.tell(t, "the longest texts", flush(0, 0, 1, 0, long))
	w.tell(t, "the longest key", read(0, 0, 1, most))
	w.tell(t, "a longer key", read(0, 0, 1, most+"m"))
	w.reopened(t, "the longest texts", 0, 0)
	many := make([]api.Entry, api.MaxList)
	many[0], many[api.MaxList-1] = put("first", 3, 4, "x"), put("last", 3, 5, "y")
	w.tell(t, "the longest list", flush(0, 0, 1, 0, many...))
	w.reopened(t, "the longest list", 0, 0)
	w.tell(t, "behind all", flush(0, 0, 1, version(9, 9), put("a", 9, 10, "x")))
	w.reopened(t, "behind all", 0, 0)
}

// kept tells a store messages behind each of which the log is too long, but no picture could be opened again: they are added, and all records stay.
func kept(t *testing.T, w *twin, l ...api.Msg) {
	t.Helper()
	for i, m := range l {
		what := "kept " + strconv.Itoa(i)
		want, _ := w.x.answers(m)
		got, e := w.s.Handle(m)
		if e != api.OK || !sameMsgs(got, want) {
			t.Fatalf("%s: %s, error %d", what, told(got...), e)
		}
		if w.l.Add(msg.Put(m)) != api.OK || w.l.Flush() != api.OK || w.l.Size() <= 1<<14 {
			t.Fatalf("%s: the log has %d bytes", what, w.l.Size())
		}
		w.x.do(m)
		w.check(t, what)
	}
	w.reopened(t, "kept", 0, 0)
}

// checkSaved asks that the log is the picture alone.
func (w *twin) checkSaved(t *testing.T, what string) {
	t.Helper()
	if !bytes.Equal(onDisk(w.d), frame.Put(nil, w.x.picture())) {
		t.Fatalf("%s: nothing is saved", what)
	}
	w.reopened(t, what, 0, 0)
}

// P10.3: rows of which no picture can be made, for they are more than a list has, stay in the log; when they are fewer again, they are saved.
func TestManyRows(t *testing.T) {
	w := newTwin(t, 2)
	var es, dels []api.Entry
	for n := range api.MaxList {
		es = append(es, put(strconv.Itoa(n), 1, n+1, ""))
		dels = append(dels, del(strconv.Itoa(n), 2, n+1))
	}
	w.tell(t, "as many as a list has", flush(1, 0, 1, 0, es...))
	w.checkSaved(t, "as many as a list has")
	kept(t, w, flush(1, 0, 2, 0, put("one more", 3, 1, "x")), fence(0, 1), flush(0, 1, 3, 0, put("a", 1, 1, "x")), fence(1, 2), flush(1, 2, 4, 0, put("two more", 3, 2, "y"), del("one more", 3, 3)))
	kept(t, w, flush(1, 2, 5, version(2, 0), dels[:2]...), flush(1, 2, 6, version(2, 1)))
	w.tell(t, "fewer", flush(1, 2, 7, version(2, 2)))
	w.checkSaved(t, "fewer")
}

// P10.3: so do rows of more bytes than a frame has, in one shard or in all.
func TestManyBytes(t *testing.T) {
	w := newTwin(t, 1)
	kept(t, w, sized(0, 0, api.MaxFrame))
	w.tell(t, "fewer", flush(0, 0, 1, version(1, 99), put("last", 2, 1, "")))
	w.checkSaved(t, "fewer")
	head := len(frame.Put(nil, nil))
	w = newTwin(t, 2)
	w.tell(t, "half", sized(0, 0, api.MaxFrame/2))
	w.tell(t, "the other half", sized(1, 0, api.MaxFrame/2-2*head))
	if len(w.x.picture()) != api.MaxFrame {
		t.Fatal(len(w.x.picture()))
	}
	w.checkSaved(t, "both halves")
	kept(t, w, flush(0, 0, 1, 0, put("last", 3, 99, w.x[0].rows["last"].Val+"v")))
}

// heavy is a Flush behind which a new log of the store has so many bytes.
func heavy(shard, epoch, size int) api.Msg {
	m := flush(shard, epoch, 1, version(1, 0), put("heavy", 1, 1, ""))
	for len(frame.Put(frame.Put(nil, nil), msg.Put(m))) < size {
		m.Entries[0].Val += strings.Repeat("h", max(1, size-len(frame.Put(frame.Put(nil, nil), msg.Put(m)))-9))
	}
	return m
}

// P10.2: a log of 2^14 bytes stays; of one more its picture is saved.
func TestSave(t *testing.T) {
	empty := frame.Put(nil, nil)
	for size := 1<<14 - 3; size <= 1<<14+3; size++ {
		m := heavy(1, 0, size)
		w := newTwin(t, 2)
		w.tell(t, "heavy", m)
		b := onDisk(w.d)
		want := frame.Put(slices.Clone(empty), msg.Put(m))
		if len(want) != size {
			t.Fatalf("%d bytes, not %d", len(want), size)
		}
		if size > 1<<14 {
			want = frame.Put(nil, w.x.picture())
		}
		if !bytes.Equal(b, want) {
			t.Fatalf("a log of %d bytes comes to %d bytes, not %d", size, len(b), len(want))
		}
		w.reopened(t, "heavy", 0, 0)
		w.tell(t, "one more", fence(0, 1))
		w.reopened(t, "one more", 0, 0)
	}
}

// P10.2: a log grows until it is too long, again and again, by Fences too.
func TestSaves(t *testing.T) {
	w := newTwin(t, 2)
	saves := 0
	for n := 1; n < 900; n++ {
		was := len(onDisk(w.d))
		w.tell(t, "fence", fence(n%2, n))
		w.tell(t, "flush", flush(n%2, n, n, 0, put(strconv.Itoa(n%7), n, n, strconv.Itoa(n))))
		if now := len(onDisk(w.d)); now < was {
			saves++
		} else if now > 1<<14 {
			t.Fatalf("the log has %d bytes", now)
		}
		if n%50 == 0 {
			w.reopened(t, "saved", 0, 0)
		}
	}
	if saves < 3 {
		t.Errorf("%d saves", saves)
	}
}

// P10.2: what isn't added lets a log that is too long be; what is added doesn't.
func TestNothingAdded(t *testing.T) {
	x := newModel(2)
	x.do(fence(1, 4))
	m := heavy(1, 4, 1<<14+500)
	x.do(m)
	d := laid(t, nil, msg.Put(fence(1, 4)), msg.Put(m))
	w := opened(t, "laid", d, x)
	for _, m := range []api.Msg{read(1, 4, 1, "heavy"), read(0, 0, 1, "a"), fence(1, 4), fence(1, 1), fence(0, 0), flush(1, 3, 1, 0, put("a", 5, 5, "x")), flush(0, 1, 1, 0, put("a", 5, 5, "x"))} {
		// Were a change done, the disk would be down.
		w.d.Arm(1)
		w.by.Arm(1)
		w.tell(t, "not added", m)
		if w.d.Down() || len(onDisk(w.d)) < 1<<14+500 {
			t.Fatalf("%s: the log became another one", told(m))
		}
	}
	w.d.Arm(-1)
	w.by.Arm(-1)
	w.tell(t, "added", fence(0, 1))
	w.checkSaved(t, "added")
	// A picture that is itself longer is saved behind all that is added.
	w.tell(t, "longer", heavy(0, 1, 1<<15))
	w.checkSaved(t, "longer")
	for n := range 5 {
		w.tell(t, "behind it", flush(1, 4, n, 0, put("a", 6, n, "x")))
		w.checkSaved(t, "behind it")
	}
}

// P10.2: with an error of the disk ahead of the message's being lasting nothing is answered, or done; of a Save it is told beside the answer.
func TestErrors(t *testing.T) {
	for _, shards := range []int{1, 3} {
		for _, light := range []api.Msg{fence(0, 1), flush(0, 0, 3, version(1, 0), put("a", 1, 1, "x"))} {
			for n := range 4 {
				w := newTwin(t, shards)
				w.d.Arm(n)
				w.by.Arm(n)
				if e := w.tell(t, "light", light); (e == api.OK) != (n >= 2) {
					t.Fatalf("%d changes: error %d", n, e)
				}
			}
		}
		m := heavy(0, 0, 1<<14+1)
		for n := range 9 {
			w := newTwin(t, shards)
			w.d.Arm(n)
			w.by.Arm(n)
			l, e := w.s.Handle(m)
			w.byHand(m)
			w.check(t, "heavy")
			want := api.OK
			if n < 7 {
				want = api.ErrDown
			}
			if e != want || len(l) != min(1, n/2) {
				t.Fatalf("%d changes: %s, error %d", n, told(l...), e)
			}
		}
	}
}

// P10.2: what needs no disk is answered while it is down.
func TestDown(t *testing.T) {
	w := opened(t, "some", laid(t, some().picture()), some())
	w.d.Arm(0)
	w.by.Arm(0)
	for _, m := range []api.Msg{read(0, 3, 1, "b"), read(0, 3, 1, "none"), fence(0, 3), fence(0, 1), flush(0, 2, 4, 0, put("a", 9, 9, "x"))} {
		if e := w.tell(t, "down", m); e != api.OK {
			t.Errorf("%s: error %d", told(m), e)
		}
	}
	for _, m := range []api.Msg{fence(0, 4), flush(0, 3, 4, 0), flush(0, 3, 4, 0, put("a", 9, 9, "x"))} {
		if e := w.tell(t, "down", m); e != api.ErrDown {
			t.Errorf("%s: error %d", told(m), e)
		}
	}
}

// A store of nothing has no shards.
func TestNoStore(t *testing.T) {
	for _, s := range []*store.Store{nil, {}} {
		for _, m := range []api.Msg{fence(0, 1), flush(0, 0, 1, 0), read(0, 0, 1, "a"), {}} {
			if l, e := s.Handle(m); len(l) != 0 || e != api.OK {
				t.Error(told(l...), e)
			}
		}
		checkStore(t, "nothing", s, nil)
	}
}
