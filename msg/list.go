package msg

import (
	"lockgate/api"
	"lockgate/wire"
)

// putList is out, and how many items l has, and these, behind; put is out and an item's bytes.
func putList[T any](out []byte, l []T, put func(out []byte, x T) []byte) []byte {
	out = wire.Int(out, len(l))
	for _, x := range l {
		out = put(out, x)
	}
	return out
}

// getList is the list that stands in b at the place, and the place behind it; get is what putList's put wrote.
func getList[T any](b []byte, at int, get func(b []byte, at int) (T, int, bool)) ([]T, int, bool) {
	count, at, ok := wire.GetInt(b, at)
	if !ok || count < 0 || count > api.MaxList {
		return nil, 0, false
	}
	// No room is taken ahead: the count may promise far more than stands behind it.
	var l []T
	for range count {
		x, behind, ok := get(b, at)
		if !ok {
			return nil, 0, false
		}
		l, at = append(l, x), behind
	}
	return l, at, true
}

// putInts is out, and the numbers' bytes behind.
func putInts(out []byte, l ...int) []byte {
	for _, n := range l {
		out = wire.Int(out, n)
	}
	return out
}

// reader is how far the bytes are read; ok: all fields stood there so far.
type reader struct {
	b  []byte
	at int
	ok bool
}

// read fills the field with what stands at the reader's place. Behind a field that wasn't there nothing is read any more: the place is lost with it.
func read[T any](r *reader, field *T, get func(b []byte, at int) (T, int, bool)) {
	if r.ok {
		*field, r.at, r.ok = get(r.b, r.at)
	}
}

// readList fills the field with the list that stands at the reader's place.
func readList[T any](r *reader, field *[]T, get func(b []byte, at int) (T, int, bool)) {
	if r.ok {
		*field, r.at, r.ok = getList(r.b, r.at, get)
	}
}

// readInts fills the fields with the numbers that stand at the reader's place, one behind the other.
func readInts(r *reader, fields ...*int) {
	for _, field := range fields {
		read(r, field, wire.GetInt)
	}
}
