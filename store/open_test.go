package store_test

import (
	"encoding/binary"
	"hash/fnv"
	"math"
	"reflect"
	"slices"
	"strconv"
	"strings"
	"testing"

	"lockgate/api"
	"lockgate/disk"
	"lockgate/frame"
	"lockgate/msg"
	"lockgate/store"
)

// some is a model of three shards: one with all, one without rows, one as at first.
func some() model {
	x := newModel(3)
	x.do(fence(0, 3))
	x.do(flush(0, 3, 1, version(2, 4), put("b", 2, 5, "bb"), put("a", 3, 6, ""), del("c", 3, 7), put("\xff", 2, 9, "z"), put("", 2, 8, "no key")))
	x.do(fence(1, 1<<40))
	x.do(flush(1, 1<<40, 1, version(api.MaxCount, api.MaxCount)))
	return x
}

// P10.1: numbers of shards that there can't be are told ahead of all that is wrong with the disk, which stays as it is.
func TestOpenArg(t *testing.T) {
	right, wrong, down := laid(t, some().picture()), laid(t, []byte("x")), disk.New()
	down.Arm(0)
	for _, shards := range []int{-1, 0, 17, 18, math.MinInt, math.MaxInt, 1 << 40} {
		for _, d := range []*disk.Disk{disk.New(), right, wrong, down} {
			was := d.Clone()
			refused(t, "of "+strconv.Itoa(shards), d, shards, api.ErrArg)
			checkDisk(t, "arg", d, was)
		}
		refused(t, "of no disk", nil, shards, api.ErrArg)
	}
	// There is no disk that a store could stand on.
	refused(t, "no disk", nil, 1, api.ErrArg)
}

// P10.1: on a disk where nothing stands all is as at first; so it is with an empty picture.
func TestOpenNew(t *testing.T) {
	for shards := 1; shards <= api.MaxShards; shards++ {
		opened(t, "new", disk.New(), newModel(shards))
		opened(t, "of an empty picture", laid(t, nil), newModel(shards))
		w := newTwin(t, shards)
		w.tell(t, "the last one", flush(shards-1, 0, 1, 0, put("a", 0, 1, "x")))
		w.reopened(t, "the last one", 0, 0)
	}
	s, e := store.Open(disk.New(), 1)
	if e != api.OK || s.Fence(0) != 0 || s.Floor(0) != 0 || len(s.Rows(0)) != 0 {
		t.Error(e)
	}
}

// P10.1: the log's errors: of a disk that is down, at the first or a later change, and of bytes that are no log.
func TestOpenErrors(t *testing.T) {
	x := some()
	for n := range 7 {
		d := laid(t, x.picture(), msg.Put(fence(2, 1)))
		d.Arm(n)
		if n < 5 {
			refused(t, "armed", d, 3, api.ErrDown)
		} else if _, e := store.Open(d, 3); e != api.OK {
			t.Fatalf("%d changes: error %d", n, e)
		}
		for keep := range 3 {
			d, want := d.Clone(), x.clone()
			want.do(fence(2, 1))
			d.Crash(keep, 20)
			opened(t, "behind it", d, want)
		}
	}
	d := disk.New()
	d.Arm(0)
	refused(t, "down", d, 1, api.ErrDown)
	for _, b := range []string{"x", "nothing of a log", string(framed(fence(0, 1))[1:])} {
		d := disk.New()
		d.Append(0, []byte(b))
		was := d.Clone()
		refused(t, "bytes", d, 1, api.ErrBytes)
		checkDisk(t, "bytes", d, was)
		d.Arm(0)
		refused(t, "bytes, and down", d, 1, api.ErrDown)
	}
}

// rawFrame is a frame by the library's sums.
func rawFrame(rec string) string {
	length := binary.LittleEndian.AppendUint32(nil, uint32(len(rec)))
	sum := fnv.New64a()
	sum.Write(length)
	sum.Write([]byte(rec))
	return string(binary.LittleEndian.AppendUint64(length, sum.Sum64())) + rec
}

// rawPicture is the picture of two shards, worked out byte by byte: the first one has the fence 3, the floor 1 2, and the rows a (of 2 5, "x") and b (of 3 6, deleted).
func rawPicture() string {
	zeros := func(n int) string { return strings.Repeat("\x00", n) }
	first := "\x1e" + zeros(5) + "\x06" + zeros(5) + // Kind, .. Epoch, .. Code
		zeros(6) + "\x02\x04" + zeros(5) + // Has, Fresh, Key, Val, Ver; Floor; Op
		"\x04" + // two entries
		"\x04\x0a" + "\x00" + "\x02a" + "\x02x" + "\x01\x00" + zeros(5) +
		"\x06\x0c" + "\x00" + "\x02b" + "\x00" + "\x01\x01" + zeros(5) +
		zeros(2) + zeros(7) // Chain, Views; Image
	second := "\x1e" + zeros(4) + "\x02" + zeros(6) + zeros(6) + zeros(2) + zeros(5) + zeros(3) + zeros(7)
	return rawFrame(first) + rawFrame(second)
}

// P10.1: the store that the picture is: byte by byte as told.
func TestOpenRaw(t *testing.T) {
	x := newModel(2)
	x[0] = part{3, version(1, 2), map[string]api.Row{"a": row("a", 2, 5, "x"), "b": gone("b", 3, 6)}}
	d := disk.New()
	d.Append(0, []byte(rawFrame(rawPicture())))
	opened(t, "raw", d, x)
	if string(x.picture()) != rawPicture() {
		t.Errorf("%q, not %q", x.picture(), rawPicture())
	}
}

// P10.1: pictures of all kinds of stores.
func TestOpenPicture(t *testing.T) {
	opened(t, "some", laid(t, some().picture()), some())
	for shards := 1; shards <= api.MaxShards; shards++ {
		x := newModel(shards)
		opened(t, "as at first", laid(t, x.picture()), x)
		for shard := range x {
			for n := range shard {
				x.do(flush(shard, 0, 0, version(0, shard), put(strconv.Itoa(n), 1, n, strings.Repeat("v", n))))
			}
			x.do(fence(shard, 100+shard))
		}
		opened(t, "all else", laid(t, x.picture()), x)
	}
	x := newModel(1)
	for n := range api.MaxList {
		x[0].rows[strconv.Itoa(n)] = row(strconv.Itoa(n), 1, n+1, "")
	}
	x[0].rows["0"] = row("0", 1, 1, strings.Repeat("v", api.MaxText))
	opened(t, "as many rows as a list has", laid(t, x.picture()), x)
	// Rows are what the picture tells, whatever the floor is.
	x = newModel(1)
	x.do(flush(0, 0, 0, 0, put("a", 1, 1, "x")))
	x.do(flush(0, 0, 0, version(8, 8)))
	opened(t, "ahead of the floor", laid(t, x.picture()), x)
}

// wrongPictures are pictures for three shards, none of which is right.
func wrongPictures() map[string][]byte {
	x := some()
	l := x.messages()
	right := framed(l...)
	entries := func(es ...api.Entry) []byte {
		m := l[0]
		m.Entries = es
		return framed(m, l[1], l[2])
	}
	a := api.Entry{Ver: version(1, 1), Key: "a", Val: "x", Write: true}
	b := api.Entry{Ver: version(1, 2), Key: "b", Val: "y", Write: true}
	late, deleted := a, b
	late.Ver, deleted.Del = version(1, 3), true
	negative := l[1]
	negative.Epoch = -1
	wild := map[string][]byte{
		"a byte":             []byte("x"),
		"a message":          msg.Put(l[0]),
		"no message":         rawly("x", "y", "z"),
		"nothing's records":  rawly("", "", ""),
		"a shard is missing": framed(l[:2]...),
		"only the first":     framed(l[0]),
		"the first missing":  framed(l[1:]...),
		"one more":           framed(append(slices.Clone(l), api.Msg{Kind: api.Flush, Shard: 3})...),
		"one twice":          framed(l[0], l[1], l[1], l[2]),
		"in another order":   framed(l[1], l[0], l[2]),
		"of one shard":       framed(l[0], l[0], l[0]),
		"a byte behind":      append(slices.Clone(right), 0),
		"half one behind":    append(slices.Clone(right), right[:20]...),
		"a byte ahead":       append([]byte{0}, right...),
		"behind a message":   slices.Concat(framed(l[0]), frame.Put(nil, append(msg.Put(l[1]), 0)), framed(l[2])),
		"keys that fall":     entries(b, a),
		"a key twice":        entries(a, a),
		"of two versions":    entries(a, late, b),
		"del with a value":   entries(a, deleted),
		"a fence below 0":    framed(l[0], negative, l[2]),
	}
	for at := range right {
		wild["cut off at "+strconv.Itoa(at+1)] = right[:at+1]
		changed := slices.Clone(right)
		changed[at] ^= 1
		wild["changed at "+strconv.Itoa(at)] = changed
	}
	delete(wild, "cut off at "+strconv.Itoa(len(right)))
	return wild
}

// rawly is the records' frames, one behind the other.
func rawly(recs ...string) []byte {
	s := ""
	for _, rec := range recs {
		s += rawFrame(rec)
	}
	return []byte(s)
}

// P10.1: ErrBytes of pictures that aren't as told.
func TestOpenWrongPicture(t *testing.T) {
	for what, picture := range wrongPictures() {
		refused(t, what, laid(t, picture), 3, api.ErrBytes)
		refused(t, what+", and records", laid(t, picture, msg.Put(fence(0, 9))), 3, api.ErrBytes)
	}
	for shards := 1; shards <= api.MaxShards; shards++ {
		if shards != 3 {
			refused(t, "of so many shards", laid(t, some().picture()), shards, api.ErrBytes)
		}
	}
}

// inEach changes one thing of v after the other, hands its name to f, and changes it back. A key that is changed stays ahead of the ones behind it.
func inEach(v reflect.Value, name string, f func(name string)) {
	was := reflect.New(v.Type()).Elem()
	was.Set(v)
	switch {
	case v.Kind() == reflect.Struct:
		for i := range v.NumField() {
			inEach(v.Field(i), name+"."+v.Type().Field(i).Name, f)
		}
		return
	case v.Kind() == reflect.Int:
		v.SetInt(v.Int() + 1)
	case v.Kind() == reflect.Bool:
		v.SetBool(!v.Bool())
	case v.Kind() == reflect.String:
		v.SetString(v.String() + "\x00")
	case v.Kind() == reflect.Complex128:
		v.SetComplex(v.Complex() + 1)
	case v.Kind() == reflect.Slice:
		v.Set(reflect.Append(v, reflect.New(v.Type().Elem()).Elem()))
	}
	f(name)
	v.Set(was)
}

// P10.1: what a picture doesn't tell is zero, in each message and each entry; what it tells may be something else.
func TestOpenPictureFields(t *testing.T) {
	for i := range 3 {
		l := some().messages()
		l[i].Floor = version(1, 3)
		inEach(reflect.ValueOf(&l[i]).Elem(), "message", func(name string) {
			checkOpens(t, name, framed(l...), name == "message.Epoch" || name == "message.Floor")
		})
	}
	for i, e := range some().messages()[0].Entries {
		l := some().messages()
		inEach(reflect.ValueOf(&l[0].Entries[i]).Elem(), "entry", func(name string) {
			may := name == "entry.Ver" || name == "entry.Key" || name == "entry.Val" && !e.Del || name == "entry.Del" && e.Val == ""
			checkOpens(t, name+" of "+e.Key, framed(l...), may)
		})
	}
}

// checkOpens asks that the picture of three shards is one, or that it is none.
func checkOpens(t *testing.T, what string, picture []byte, may bool) {
	t.Helper()
	if !may {
		refused(t, what, laid(t, picture), 3, api.ErrBytes)
		return
	}
	if _, e := store.Open(laid(t, picture), 3); e != api.OK {
		t.Errorf("%s: error %d", what, e)
	}
}

// P10.1: records are done in order, behind the picture.
func TestOpenRecords(t *testing.T) {
	x := newModel(2)
	var recs [][]byte
	for i, m := range []api.Msg{
		fence(0, 2),
		flush(0, 2, 1, 0, put("a", 2, 1, "x"), put("b", 2, 2, "y"), get("c", 2, 3)),
		fence(1, 4),
		// An entry that comes ahead of its floor counts, one that comes behind doesn't.
		flush(1, 4, 1, 0, put("a", 1, 5, "early")),
		flush(1, 4, 2, version(2, 0), put("b", 1, 6, "late"), put("c", 2, 1, "z")),
		// A record of whatever epoch was taken when it came.
		flush(0, 1, 1, 0, put("a", 2, 4, "of an epoch ahead")),
		flush(0, 9, 1, 0, put("b", 2, 5, "of an epoch behind")),
		fence(0, 1), fence(0, -1), fence(1, 5),
		flush(0, 0, 0, version(1, 1), del("a", 3, 1)),
		flush(0, 0, 0, version(1, 0)),
		flush(0, 0, 0, version(3, 1), put("d", 3, 2, "w")),
		noisy(flush(0, 0, 0, version(3, 1), put("e", 3, 3, "v"))), noisy(fence(1, 6)),
	} {
		recs = append(recs, msg.Put(m))
		x.do(m)
		opened(t, "record "+strconv.Itoa(i), laid(t, nil, recs...), x.clone())
		y := some()
		for _, rec := range recs {
			m, _ := msg.Get(rec)
			y.do(m)
		}
		opened(t, "behind a picture, record "+strconv.Itoa(i), laid(t, some().picture(), recs...), y)
	}
	if x[0].fence != 2 || len(x[0].rows) != 3 || x[0].rows["a"].Ver != 0 || x[1].floor != version(2, 0) || len(x[1].rows) != 2 {
		t.Errorf("the records come to %v", x)
	}
}

// P10.1: records of shards that there aren't, and of Kinds that change nothing, are messages' bytes: nothing is done.
func TestOpenPassedOver(t *testing.T) {
	x := newModel(2)
	x.do(flush(1, 0, 0, 0, put("a", 1, 1, "x")))
	for _, shard := range []int{-1, 2, 3, 16, 1 << 40, math.MinInt, math.MaxInt} {
		opened(t, "of a shard that there isn't", laid(t, x.picture(), msg.Put(fence(shard, 9)), msg.Put(flush(shard, 0, 0, version(5, 5), put("b", 6, 6, "y")))), x)
	}
	for kind := -1; kind < 40; kind++ {
		m := noisy(flush(1, 0, 0, version(5, 5), put("b", 6, 6, "y")))
		m.Kind, m.Epoch = kind, 9
		if kind != api.Fence && kind != api.Flush {
			opened(t, "of Kind "+strconv.Itoa(kind), laid(t, x.picture(), msg.Put(m)), x)
		}
	}
}

// P10.1: ErrBytes of records that are no message's bytes, wherever they stand.
func TestOpenWrongRecord(t *testing.T) {
	right := msg.Put(flush(0, 0, 0, version(1, 1), put("a", 2, 2, "x")))
	other := msg.Put(fence(0, 1))
	wrong := [][]byte{nil, []byte("x"), append(slices.Clone(right), 0), append([]byte{0}, right...), slices.Concat(right, right), frame.Put(nil, right)}
	for at := 1; at < len(right); at++ {
		wrong = append(wrong, right[:at], right[at:])
	}
	long := api.Msg{Kind: api.Fence, Key: strings.Repeat("k", api.MaxText+1)}
	many := api.Msg{Kind: api.Flush, Entries: make([]api.Entry, api.MaxList+1)}
	wrong = append(wrong, msg.Put(long), msg.Put(many))
	for _, rec := range wrong {
		for _, picture := range [][]byte{nil, newModel(1).picture()} {
			refused(t, "alone", laid(t, picture, rec), 1, api.ErrBytes)
			refused(t, "last", laid(t, picture, right, other, rec), 1, api.ErrBytes)
			refused(t, "first", laid(t, picture, rec, right), 1, api.ErrBytes)
			refused(t, "between", laid(t, picture, right, rec, other), 1, api.ErrBytes)
		}
	}
}
