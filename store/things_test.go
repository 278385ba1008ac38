package store_test

import (
	"bytes"
	"maps"
	"reflect"
	"slices"
	"strconv"
	"testing"

	"lockgate/api"
	"lockgate/disk"
	"lockgate/frame"
	"lockgate/msg"
	"lockgate/store"
	"lockgate/wal"
)

func version(epoch, num int) api.Ver {
	return api.Ver(complex(float64(epoch), float64(num)))
}

// ahead tells whether a is ahead of b, worked out apart.
func ahead(a, b api.Ver) bool {
	return real(a) < real(b) || real(a) == real(b) && imag(a) < imag(b)
}

func row(key string, epoch, num int, val string) api.Row {
	return api.Row{Key: key, Ver: version(epoch, num), Val: val}
}

// gone is the row of a key that was deleted.
func gone(key string, epoch, num int) api.Row {
	return api.Row{Key: key, Ver: version(epoch, num), Del: true}
}

func put(key string, epoch, num int, val string) api.Entry {
	return api.Entry{Ver: version(epoch, num), Kind: api.Put, Key: key, Val: val, Write: true, Sess: 7, Num: 8}
}

// del has a value, which its row hasn't.
func del(key string, epoch, num int) api.Entry {
	return api.Entry{Ver: version(epoch, num), Kind: api.Delete, Key: key, Val: "rest", Write: true, Del: true, Sess: 7, Num: 8}
}

func get(key string, epoch, num int) api.Entry {
	return api.Entry{Ver: version(epoch, num), Kind: api.Get, Key: key, Val: "read", Res: "was", HasRes: true}
}

func fence(shard, epoch int) api.Msg {
	return api.Msg{Kind: api.Fence, From: api.Coord, To: api.Store, Shard: shard, Epoch: epoch}
}

func flush(shard, epoch, num int, floor api.Ver, es ...api.Entry) api.Msg {
	return api.Msg{Kind: api.Flush, From: 4, To: api.Store, SBoot: 2, Shard: shard, Epoch: epoch, Num: num, Floor: floor, Entries: es}
}

func read(shard, epoch, num int, key string) api.Msg {
	return api.Msg{Kind: api.Read, From: 5, To: api.Store, SBoot: 3, Shard: shard, Epoch: epoch, Num: num, Key: key}
}

// part is a shard, and model a store, as the chapter tells them.
type part struct {
	fence int
	floor api.Ver
	rows  map[string]api.Row
}

type model []part

func newModel(shards int) model {
	x := make(model, shards)
	for i := range x {
		x[i].rows = map[string]api.Row{}
	}
	return x
}

func (x model) clone() model {
	y := slices.Clone(x)
	for i := range y {
		y[i].rows = maps.Clone(x[i].rows)
	}
	return y
}

func (x model) has(shard int) bool { return shard >= 0 && shard < len(x) }

// do does a message, one entry after the other.
func (x model) do(m api.Msg) {
	if !x.has(m.Shard) {
		return
	}
	p := &x[m.Shard]
	switch m.Kind {
	case api.Fence:
		if m.Epoch > p.fence {
			p.fence = m.Epoch
		}
	case api.Flush:
		if ahead(p.floor, m.Floor) {
			p.floor = m.Floor
		}
		for _, e := range m.Entries {
			p.apply(e)
		}
		maps.DeleteFunc(p.rows, func(_ string, r api.Row) bool { return r.Del && !ahead(p.floor, r.Ver) })
	}
}

func (p *part) apply(e api.Entry) {
	r, ok := p.rows[e.Key]
	if !e.Write || !ahead(p.floor, e.Ver) || ok && !ahead(r.Ver, e.Ver) {
		return
	}
	r = api.Row{Key: e.Key, Ver: e.Ver, Val: e.Val, Del: e.Del}
	if e.Del {
		r.Val = ""
	}
	p.rows[e.Key] = r
}

// answers is what a right message is answered, and whether it is added to the log.
func (x model) answers(m api.Msg) ([]api.Msg, bool) {
	if !x.has(m.Shard) {
		return nil, false
	}
	p := x[m.Shard]
	a := api.Msg{From: m.To, To: m.From, Boot: m.SBoot, Shard: m.Shard, Epoch: m.Epoch}
	logged := false
	switch m.Kind {
	case api.Fence:
		a.Kind = api.Fenced
		if logged = m.Epoch > p.fence; !logged {
			a.Epoch = p.fence
		}
	case api.Flush:
		a.Kind, a.Num = api.Flushed, m.Num
		if logged = m.Epoch == p.fence; !logged {
			a.Code = 6
		}
	case api.Read:
		a.Kind, a.Num, a.Key = api.Value, m.Num, m.Key
		r, ok := p.rows[m.Key]
		if ok {
			a.Ver, a.Has, a.Val = r.Ver, !r.Del, r.Val
		}
	default:
		return nil, false
	}
	return []api.Msg{a}, logged
}

// list is a shard's rows, by their keys.
func (x model) list(shard int) []api.Row {
	var l []api.Row
	for _, key := range slices.Sorted(maps.Keys(x[shard].rows)) {
		l = append(l, x[shard].rows[key])
	}
	return l
}

// messages are those of which a picture is made.
func (x model) messages() []api.Msg {
	var l []api.Msg
	for shard, p := range x {
		m := api.Msg{Kind: api.Flush, Shard: shard, Epoch: p.fence, Floor: p.floor}
		for _, r := range x.list(shard) {
			m.Entries = append(m.Entries, api.Entry{Ver: r.Ver, Key: r.Key, Val: r.Val, Write: true, Del: r.Del})
		}
		l = append(l, m)
	}
	return l
}

func (x model) picture() []byte { return framed(x.messages()...) }

// same tells whether the store has just what the model has.
func (x model) same(s *store.Store) bool {
	for shard, p := range x {
		if s.Fence(shard) != p.fence || s.Floor(shard) != p.floor || !slices.Equal(s.Rows(shard), x.list(shard)) {
			return false
		}
	}
	return true
}

// framed is the messages' bytes, each in a frame.
func framed(l ...api.Msg) []byte {
	var out []byte
	for _, m := range l {
		out = frame.Put(out, msg.Put(m))
	}
	return out
}

// twin has a store, and on a disk of its own a log to which is done by hand what the chapter asks for.
type twin struct {
	d, by *disk.Disk
	s     *store.Store
	l     *wal.Log
	x     model
}

func newTwin(t *testing.T, shards int) *twin {
	t.Helper()
	return opened(t, "new", disk.New(), newModel(shards))
}

// opened is the store on the disk, which must have what the model has.
func opened(t *testing.T, what string, d *disk.Disk, x model) *twin {
	t.Helper()
	w := &twin{d: d, by: d.Clone(), x: x}
	var e, by api.Errno
	w.s, e = store.Open(d, len(x))
	w.l, _, _, by = wal.Open(w.by)
	if e != api.OK || by != api.OK || w.s == nil {
		t.Fatalf("%s: errors %d, %d", what, e, by)
	}
	w.check(t, what)
	return w
}

// byHand is what Handle is to answer, and what it does to the disk.
func (w *twin) byHand(m api.Msg) ([]api.Msg, api.Errno) {
	l, logged := w.x.answers(m)
	if !logged {
		return l, api.OK
	}
	if e := w.l.Add(msg.Put(m)); e != api.OK {
		return nil, e
	}
	if e := w.l.Flush(); e != api.OK {
		return nil, e
	}
	w.x.do(m)
	if w.l.Size() > 16384 {
		return l, w.l.Save(w.x.picture())
	}
	return l, api.OK
}

// tell tells the store a message, and asks that it answers, has and leaves on the disk what is done by hand.
func (w *twin) tell(t *testing.T, what string, m api.Msg) api.Errno {
	t.Helper()
	got, e := w.s.Handle(m)
	want, by := w.byHand(m)
	if e != by || !sameMsgs(got, want) {
		t.Fatalf("%s: %s: answered %s, error %d, not %s, error %d", what, told(m), told(got...), e, told(want...), by)
	}
	w.check(t, what)
	return e
}

// refuse tells the store a message which it is to pass over.
func (w *twin) refuse(t *testing.T, what string, m api.Msg) {
	t.Helper()
	l, e := w.s.Handle(m)
	if len(l) != 0 || e != api.OK {
		t.Fatalf("%s: %s: answered %s, error %d", what, told(m), told(l...), e)
	}
	w.check(t, what)
}

func (w *twin) check(t *testing.T, what string) {
	t.Helper()
	checkStore(t, what, w.s, w.x)
	checkDisk(t, what, w.d, w.by)
}

// reopened is another store, on a clone of the disk behind a crash.
func (w *twin) reopened(t *testing.T, what string, keep, torn int) *twin {
	t.Helper()
	d := w.d.Clone()
	d.Crash(keep, torn)
	return opened(t, what, d, w.x.clone())
}

func checkStore(t *testing.T, what string, s *store.Store, x model) {
	t.Helper()
	for shard, p := range x {
		if s.Fence(shard) != p.fence || s.Floor(shard) != p.floor {
			t.Fatalf("%s: shard %d: fence %d, floor %v, not %d, %v", what, shard, s.Fence(shard), s.Floor(shard), p.fence, p.floor)
		}
		if got, want := s.Rows(shard), x.list(shard); !slices.Equal(got, want) {
			t.Fatalf("%s: shard %d: %s, not %s", what, shard, short(got), short(want))
		}
	}
	for _, shard := range []int{-1, len(x), len(x) + 1, 1 << 40, -1 << 40} {
		if s.Fence(shard) != 0 || s.Floor(shard) != 0 || len(s.Rows(shard)) != 0 {
			t.Fatalf("%s: there is a shard %d", what, shard)
		}
	}
}

// checkDisk asks that two disks are the same: what stands there now, and what is lasting.
func checkDisk(t *testing.T, what string, got, want *disk.Disk) {
	t.Helper()
	if got.Down() != want.Down() || got.Loose() != want.Loose() {
		t.Fatalf("%s: down %v, %d loose, not %v, %d", what, got.Down(), got.Loose(), want.Down(), want.Loose())
	}
	if !want.Down() && want.Loose() == 0 {
		checkAreas(t, what, got, want)
		return
	}
	for _, keep := range []int{0, want.Loose()} {
		a, b := got.Clone(), want.Clone()
		a.Crash(keep, 0)
		b.Crash(keep, 0)
		checkAreas(t, what, a, b)
	}
}

// checkAreas asks that the same stands on two disks that are up.
func checkAreas(t *testing.T, what string, got, want *disk.Disk) {
	t.Helper()
	for area := range 2 {
		x, _ := got.Read(area)
		y, _ := want.Read(area)
		if !bytes.Equal(x, y) {
			t.Fatalf("%s: area %d: %d bytes %q, not %d bytes %q", what, area, len(x), small(x), len(y), small(y))
		}
	}
	x, _ := got.First()
	y, _ := want.First()
	if x != y {
		t.Fatalf("%s: %d in front, not %d", what, x, y)
	}
}

// onDisk is the front area's bytes; none, if the disk is down.
func onDisk(d *disk.Disk) []byte {
	area, _ := d.First()
	b, _ := d.Read(area)
	return b
}

// laid is a disk with a log of a picture and records.
func laid(t *testing.T, picture []byte, recs ...[]byte) *disk.Disk {
	t.Helper()
	d := disk.New()
	b := frame.Put(nil, picture)
	for _, rec := range recs {
		b = frame.Put(b, rec)
	}
	if d.Append(0, b) != api.OK || d.Sync() != api.OK {
		t.Fatal("nothing is laid")
	}
	return d
}

// refused opens a store, which must answer the error, and nothing beside.
func refused(t *testing.T, what string, d *disk.Disk, shards int, want api.Errno) {
	t.Helper()
	s, e := store.Open(d, shards)
	if s != nil || e != want {
		t.Fatalf("%s: store %v, error %d, not %d", what, s != nil, e, want)
	}
}

// sameMsgs holds messages against each other; nil and empty lists are one.
func sameMsgs(a, b []api.Msg) bool {
	return slices.EqualFunc(a, b, func(x, y api.Msg) bool { return reflect.DeepEqual(bare(x), bare(y)) })
}

func bare(m api.Msg) api.Msg {
	if len(m.Entries) == 0 {
		m.Entries = nil
	}
	if len(m.Chain) == 0 {
		m.Chain = nil
	}
	if len(m.Views) == 0 {
		m.Views = nil
	}
	if len(m.Image.Log) == 0 {
		m.Image.Log = nil
	}
	if len(m.Image.Seen) == 0 {
		m.Image.Seen = nil
	}
	return m
}

// fill sets all that a thing has to something that isn't zero: what is numbered from, and on.
func fill(v reflect.Value, from *int) {
	*from++
	switch v.Kind() {
	case reflect.Int:
		v.SetInt(int64(*from))
	case reflect.Bool:
		v.SetBool(true)
	case reflect.String:
		v.SetString("text " + strconv.Itoa(*from))
	case reflect.Complex128:
		v.SetComplex(complex(float64(*from), float64(*from)+1))
	case reflect.Slice:
		v.Set(reflect.MakeSlice(v.Type(), 2, 2))
		fill(v.Index(0), from)
		fill(v.Index(1), from)
	case reflect.Struct:
		for i := range v.NumField() {
			fill(v.Field(i), from)
		}
	}
}

// full is a message with something else in each field; the answers have little of it.
func full() api.Msg {
	var m api.Msg
	from := 20
	fill(reflect.ValueOf(&m).Elem(), &from)
	return m
}

// noisy is the message with all that its Kind doesn't speak of set to something.
func noisy(m api.Msg) api.Msg {
	n := full()
	n.Kind, n.From, n.To, n.SBoot, n.Shard, n.Epoch = m.Kind, m.From+3, m.To+40, m.SBoot+5, m.Shard, m.Epoch
	switch m.Kind {
	case api.Flush:
		n.Num, n.Floor, n.Entries = m.Num, m.Floor, m.Entries
	case api.Read:
		n.Num, n.Key = m.Num, m.Key
	}
	return n
}

// small, short and told keep short what a failing test tells.
func small(b []byte) []byte { return b[:min(len(b), 60)] }

func short(l []api.Row) string {
	s := strconv.Itoa(len(l)) + " rows:"
	for _, r := range l[:min(len(l), 20)] {
		s += " " + strconv.QuoteToASCII(r.Key[:min(len(r.Key), 9)]) + " of " + strconv.FormatComplex(complex128(r.Ver), 'g', -1, 128) + " " + strconv.Itoa(len(r.Val)) + " bytes"
		if r.Del {
			s += ", gone"
		}
	}
	return s
}

func told(l ...api.Msg) string {
	s := "["
	for _, m := range l {
		b := msg.Put(m)
		s += "Kind " + strconv.Itoa(m.Kind) + ", shard " + strconv.Itoa(m.Shard) + ", epoch " + strconv.Itoa(m.Epoch) + ", code " + strconv.Itoa(m.Code) + ": " + strconv.QuoteToASCII(string(small(b))) + ";"
	}
	return s + "]"
}
