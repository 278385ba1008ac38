package wal_test

import (
	"math/rand"
	"slices"
	"strconv"
	"strings"
	"testing"

	"lockgate/api"
	"lockgate/disk"
	"lockgate/wal"
)

// life is a log on a disk, and what may be there behind a crash: what it holds, or the first sure records of it at least; and, behind a Save that was cut off, the saved picture.
type life struct {
	d     *disk.Disk
	l     *wal.Log
	now   held
	sure  int
	saved *held
	count int
}

func newLife(t *testing.T) *life {
	t.Helper()
	x := &life{d: disk.New()}
	x.l = opened(t, "new", x.d, held{})
	return x
}

// next is a text that no other one is; its length changes.
func (x *life) next() string {
	x.count++
	return strings.Repeat("r", x.count%5) + strconv.Itoa(x.count)
}

// step does one call, and tells whether the disk did it: "a" adds, "e" adds nothing's record, "f" flushes, "s" saves, "o" opens anew.
func (x *life) step(t *testing.T, call byte) bool {
	t.Helper()
	var e api.Errno
	switch call {
	case 'a', 'e':
		rec := ""
		if call == 'a' {
			rec = x.next()
		}
		if e = x.l.Add([]byte(rec)); e == api.OK {
			x.now.recs = append(slices.Clone(x.now.recs), rec)
		}
	case 'f':
		if e = x.l.Flush(); e == api.OK {
			x.sure = len(x.now.recs)
		}
	case 's':
		saved := held{picture: x.next()}
		if e = x.l.Save([]byte(saved.picture)); e == api.OK {
			x.now, x.sure = saved, 0
		} else {
			x.saved = &saved
		}
	case 'o':
		var l *wal.Log
		if l, _, _, e = wal.Open(x.d); e == api.OK {
			x.l, x.sure = l, len(x.now.recs)
		}
	}
	if e != api.OK && e != api.ErrDown {
		t.Fatalf("%c: error %d", call, e)
	}
	return e == api.OK
}

// may tells whether a log may hold this behind a crash.
func (x *life) may(got held) bool {
	if x.saved != nil && got.same(*x.saved) {
		return true
	}
	return got.picture == x.now.picture && len(got.recs) >= x.sure &&
		len(got.recs) <= len(x.now.recs) && slices.Equal(got.recs, x.now.recs[:len(got.recs)])
}

// crashed is another life, behind a crash.
func (x *life) crashed(t *testing.T, name string, keep, torn int) *life {
	t.Helper()
	d := x.d.Clone()
	d.Crash(keep, torn)
	l, got := holds(t, name, d)
	if !x.may(got) {
		t.Fatalf("%s, crashed (%d, %d): %q, of %q, %d of them sure", name, keep, torn, got, x.now, x.sure)
	}
	return &life{d: d, l: l, now: got, sure: len(got.recs), count: x.count}
}

// goesOn asks that a log that was opened behind a crash is one as any other: what is there is lasting, and what is flushed is there.
func (x *life) goesOn(t *testing.T, name string) {
	t.Helper()
	x = x.crashed(t, name+", again", 0, 0)
	for _, call := range []byte("aef") {
		if !x.step(t, call) {
			t.Fatalf("%s: %c isn't done", name, call)
		}
	}
	x.crashed(t, name+", gone on", 0, 0)
}

// calls is every row of so many calls.
func calls(length int) []string {
	rows := []string{""}
	for range length {
		var longer []string
		for _, row := range rows {
			for _, call := range "afso" {
				longer = append(longer, row+string(call))
			}
		}
		rows = longer
	}
	return rows
}

// P8.3: whatever is called, cut off at whichever change, and whatever a crash keeps and tears, the log holds the picture that it had and a beginning of the records, with all that are sure; or what a Save was to leave.
func TestCrash(t *testing.T) {
	for _, row := range calls(4) {
		for n := range 21 {
			x := newLife(t)
			x.d.Arm(n)
			done := 0
			for done < len(row) && x.step(t, row[done]) {
				done++
			}
			name := row + " behind " + strconv.Itoa(n)
			for keep := range x.d.Loose() + 1 {
				for _, torn := range []int{-1, 0, 1, 11, 12, 13, 23, 24, 26, 100} {
					x.crashed(t, name, keep, torn).goesOn(t, name)
				}
			}
			if done == len(row) && !x.d.Down() {
				break
			}
		}
	}
}

// P8.3: long lives with crash upon crash.
func TestLives(t *testing.T) {
	random := rand.New(rand.NewSource(8))
	for life := range 300 {
		name := "life " + strconv.Itoa(life)
		x := newLife(t)
		for range 40 {
			x.d.Arm(random.Intn(12) - 1)
			for range random.Intn(12) {
				if !x.step(t, "aaaeaffsso"[random.Intn(10)]) {
					break
				}
			}
			x = x.crashed(t, name, random.Intn(x.d.Loose()+2), random.Intn(40))
		}
	}
}

// P8.3: what is kept of the records is as many as the crash kept, each whole: torn ones aren't there.
func TestKept(t *testing.T) {
	d := disk.New()
	l := opened(t, "new", d, held{})
	recs := []string{"a", "", "ccc", "dd"}
	for _, rec := range recs {
		check(t, "add", l.Add([]byte(rec)), api.OK)
	}
	for keep := range recs {
		for torn := range 40 {
			length := len(framed(recs[keep]))
			if keep == 0 {
				length += len(emptyFrame)
			}
			whole := keep
			if torn >= length {
				whole++
			}
			x := d.Clone()
			x.Crash(keep, torn)
			opened(t, "kept", x, held{recs: recs[:whole]})
		}
	}
}

// P8.3: where a Save is cut off, what was there stays till the picture's area is in front; an Open changes nothing of it.
func TestCutOff(t *testing.T) {
	had, saved := held{"had", []string{"a", "b"}}, held{picture: "saved"}
	for n := range 6 {
		for keep := range 3 {
			d := laid(t, n%2, framed("had", "a", "b"), "other", true)
			l := opened(t, "had", d, had)
			d.Arm(n)
			e := l.Save([]byte("saved"))
			if (e == api.OK) != (n >= 5) {
				t.Fatalf("%d changes are left: %d", n, e)
			}
			d.Crash(keep, 0)
			want := had
			if n == 5 || n == 4 && keep > 0 {
				want = saved
			}
			opened(t, "a save, cut off", d, want)
			d.Arm(n)
			wal.Open(d)
			d.Crash(keep, 0)
			opened(t, "an open, cut off", d, want)
		}
	}
}
