package store

import (
	"bytes"
	"slices"

	"lockgate/api"
	"lockgate/frame"
	"lockgate/msg"
	"lockgate/table"
	"lockgate/ver"
)

// shard is what the store has of a shard.
type shard struct {
	fence int
	floor api.Ver
	rows  []api.Row
}

// raise does a Fence. A fence never falls.
func (x *shard) raise(m api.Msg) { x.fence = max(x.fence, m.Epoch) }

// write does a Flush, of whatever epoch: who logged it has held that against the fence.
func (x *shard) write(m api.Msg) {
	x.floor = ver.Later(x.floor, m.Floor)
	x.rows = table.Collect(table.Apply(x.rows, x.floor, m.Entries), x.floor)
}

// message is what a picture tells of the shard.
func (x *shard) message(number int) api.Msg {
	m := api.Msg{Kind: api.Flush, Shard: number, Epoch: x.fence, Floor: x.floor}
	for _, r := range x.rows {
		m.Entries = append(m.Entries, api.Entry{Ver: r.Ver, Key: r.Key, Val: r.Val, Write: true, Del: r.Del})
	}
	return m
}

// putPicture is the picture of the shards, and true; nothing and false, if there is more of them than a picture holds.
func putPicture(shards []shard) ([]byte, bool) {
	var out []byte
	for number := range shards {
		x := &shards[number]
		if len(x.rows) > api.MaxList {
			return nil, false
		}
		out = frame.Put(out, msg.Put(x.message(number)))
		if len(out) > api.MaxFrame {
			return nil, false
		}
	}
	return out, true
}

// getPicture is the so many shards whose picture it is.
func getPicture(picture []byte, count int) ([]shard, bool) {
	if len(picture) == 0 {
		return make([]shard, count), true
	}
	recs, end := frame.Scan(picture)
	if len(recs) != count || end != len(picture) {
		return nil, false
	}
	var shards []shard
	for number, rec := range recs {
		x, ok := getShard(rec, number)
		if !ok {
			return nil, false
		}
		shards = append(shards, x)
	}
	return shards, true
}

// getShard is the shard of which a picture tells the record.
func getShard(rec []byte, number int) (shard, bool) {
	m, ok := msg.Get(rec)
	if !ok {
		return shard{}, false
	}
	x := shard{fence: m.Epoch, floor: m.Floor}
	for _, e := range m.Entries {
		x.rows = append(x.rows, rowOf(e))
	}
	// There is one way to tell a shard: all that is told otherwise shows in the bytes.
	if x.fence < 0 || !table.Right(x.rows) || !bytes.Equal(rec, msg.Put(x.message(number))) {
		return shard{}, false
	}
	return x, true
}

// rowOf is the row that a picture's entry tells; what is deleted has no value.
func rowOf(e api.Entry) api.Row {
	r := api.Row{Key: e.Key, Ver: e.Ver, Val: e.Val, Del: e.Del}
	if r.Del {
		r.Val = ""
	}
	return r
}

// hasVersions tells whether all versions of the message are some.
func hasVersions(m api.Msg) bool {
	l := []api.Ver{m.Ver, m.Floor, m.Image.Floor, m.Image.Last}
	for _, e := range slices.Concat(m.Entries, m.Image.Log) {
		l = append(l, e.Ver)
	}
	for _, s := range m.Image.Seen {
		l = append(l, s.Ver)
	}
	return !slices.ContainsFunc(l, func(v api.Ver) bool { return !ver.Right(v) })
}
