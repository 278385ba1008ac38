package wal_test

import (
	"encoding/binary"
	"hash/fnv"
	"slices"
	"strings"
	"testing"

	"lockgate/api"
	"lockgate/disk"
	"lockgate/wal"
)

// emptyFrame is the empty record's frame: four bytes of a length of 0, and the sum of these, worked out apart.
const emptyFrame = "\x00\x00\x00\x00\xf5\x13\xce\x9d\x7f\x76\x25\x4d"

// held is what a log holds.
type held struct {
	picture string
	recs    []string
}

func (h held) same(other held) bool {
	return h.picture == other.picture && slices.Equal(h.recs, other.recs)
}

// framed is the texts' frames, one behind the other, with the library's sums.
func framed(texts ...string) string {
	var out []byte
	for _, text := range texts {
		length := binary.LittleEndian.AppendUint32(nil, uint32(len(text)))
		sum := fnv.New64a()
		sum.Write(length)
		sum.Write([]byte(text))
		out = append(out, length...)
		out = binary.LittleEndian.AppendUint64(out, sum.Sum64())
		out = append(out, text...)
	}
	return string(out)
}

// wrong is the text with one byte changed.
func wrong(text string, at int) string {
	b := []byte(text)
	b[at] ^= 0x10
	return string(b)
}

func scribble(b []byte) {
	for i := range b {
		b[i] = '!'
	}
}

// do does one step: "0=ab" and "1=ab" append, "w0" wipes, "f0" puts in front, "s" syncs.
func do(d *disk.Disk, step string) api.Errno {
	switch step[0] {
	case 's':
		return d.Sync()
	case 'w':
		return d.Wipe(int(step[1] - '0'))
	case 'f':
		return d.Front(int(step[1] - '0'))
	}
	return d.Append(int(step[0]-'0'), []byte(step[2:]))
}

// play does steps, with one blank between, of which each must be done.
func play(t *testing.T, d *disk.Disk, steps string) {
	t.Helper()
	for step := range strings.SplitSeq(steps, " ") {
		if step != "" {
			check(t, step, do(d, step), api.OK)
		}
	}
}

// laid is a disk with the area in front, its content, and the other one's; synced: nothing is loose.
func laid(t *testing.T, front int, content, other string, synced bool) *disk.Disk {
	t.Helper()
	d := disk.New()
	check(t, "front", d.Front(front), api.OK)
	check(t, "append", d.Append(front, []byte(content)), api.OK)
	check(t, "append", d.Append(1-front, []byte(other)), api.OK)
	if synced {
		check(t, "sync", d.Sync(), api.OK)
	}
	return d
}

// replaceByHand does what Open and Save are told to change, until an error.
func replaceByHand(d *disk.Disk, frames string) api.Errno {
	front, e := d.First()
	if e != api.OK {
		return e
	}
	other := string(rune('1' - front))
	for _, step := range []string{"w" + other, other + "=" + frames, "s", "f" + other, "s"} {
		if e := do(d, step); e != api.OK {
			return e
		}
	}
	return api.OK
}

func check(t *testing.T, name string, got, want api.Errno) {
	t.Helper()
	if got != want {
		t.Fatalf("%s: error %d, not %d", name, got, want)
	}
}

// shown is a text, or its beginning and its length.
func shown(text string) string {
	if len(text) > 60 {
		return text[:60] + ".."
	}
	return text
}

// opened opens the log, which must hold what is wanted.
func opened(t *testing.T, name string, d *disk.Disk, want held) *wal.Log {
	t.Helper()
	l, got := holds(t, name, d)
	if !got.same(want) {
		t.Fatalf("%s: %d and %d records, %q: %q, not %d and %d, %q: %q", name,
			len(got.picture), len(got.recs), shown(got.picture), shown(strings.Join(got.recs, ",")),
			len(want.picture), len(want.recs), shown(want.picture), shown(strings.Join(want.recs, ",")))
	}
	return l
}

// holds opens the log, and tells what it holds.
func holds(t *testing.T, name string, d *disk.Disk) (*wal.Log, held) {
	t.Helper()
	l, p, recs, e := wal.Open(d)
	if e != api.OK || l == nil {
		t.Fatalf("%s: log %v, error %d", name, l, e)
	}
	got := held{picture: string(p)}
	for _, rec := range recs {
		got.recs = append(got.recs, string(rec))
	}
	return l, got
}

func reopened(t *testing.T, d *disk.Disk) *wal.Log {
	t.Helper()
	l, _ := holds(t, "open", d)
	return l
}

// refused opens the log, which must answer the error, and nothing beside it.
func refused(t *testing.T, name string, d *disk.Disk, want api.Errno) {
	t.Helper()
	l, p, recs, e := wal.Open(d)
	if l != nil || len(p) != 0 || len(recs) != 0 || e != want {
		t.Fatalf("%s: log %v, picture %q, %d records, error %d, not %d", name, l, p, len(recs), e, want)
	}
}

func checkArea(t *testing.T, name string, d *disk.Disk, area int, want string) {
	t.Helper()
	b, e := d.Read(area)
	if string(b) != want || e != api.OK {
		t.Fatalf("%s: area %d: %d bytes %q, error %d, not %d bytes %q", name, area, len(b), shown(string(b)), e, len(want), shown(want))
	}
}

// checkOpened asks for what an Open leaves: the frames in what was the other area, which is in front; what was in front, as it was; all of it lasting.
func checkOpened(t *testing.T, d *disk.Disk, front int, content, frames string) {
	t.Helper()
	if d.Loose() != 0 {
		t.Errorf("opened: %d loose", d.Loose())
	}
	d = d.Clone()
	d.Crash(0, 0)
	checkArea(t, "opened", d, front, content)
	checkArea(t, "opened", d, 1-front, frames)
	if now, _ := d.First(); now != 1-front {
		t.Errorf("opened: %d in front", now)
	}
}

// checkSize asks for the front area's bytes, twice; that changes nothing.
func checkSize(t *testing.T, d *disk.Disk, l *wal.Log, want int) {
	t.Helper()
	before := d.Clone()
	if l.Size() != want || l.Size() != want {
		t.Errorf("%d bytes, not %d", l.Size(), want)
	}
	checkSame(t, "size", d, before)
}

// tells is all that a disk that is up tells of its areas.
func tells(t *testing.T, name string, d *disk.Disk) [3]string {
	t.Helper()
	a, e := d.Read(0)
	check(t, name+", read 0", e, api.OK)
	b, e := d.Read(1)
	check(t, name+", read 1", e, api.OK)
	front, e := d.First()
	check(t, name+", first", e, api.OK)
	return [3]string{string(a), string(b), string(rune('0' + front))}
}

// checkSame asks that two disks are the same: up or down, what they tell, what whatever crash leaves of them, and how many changes are left.
func checkSame(t *testing.T, name string, got, want *disk.Disk) {
	t.Helper()
	if got.Down() != want.Down() || got.Loose() != want.Loose() {
		t.Fatalf("%s: down %v, %d loose, not %v, %d", name, got.Down(), got.Loose(), want.Down(), want.Loose())
	}
	if !want.Down() && tells(t, name, got) != tells(t, name, want) {
		t.Fatalf("%s: %q, not %q", name, tells(t, name, got), tells(t, name, want))
	}
	for keep := range want.Loose() + 1 {
		for _, torn := range []int{0, 1, 11, 12, 13, 1 << 20} {
			x, y := got.Clone(), want.Clone()
			x.Crash(keep, torn)
			y.Crash(keep, torn)
			if tells(t, name, x) != tells(t, name, y) {
				t.Fatalf("%s, crashed (%d, %d): %q, not %q", name, keep, torn, tells(t, name, x), tells(t, name, y))
			}
		}
	}
	x, y := got.Clone(), want.Clone()
	for range 8 {
		if x.Sync() != y.Sync() {
			t.Fatalf("%s: not as many changes are left", name)
		}
	}
}
