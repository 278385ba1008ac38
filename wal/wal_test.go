package wal_test

import (
	"strings"
	"testing"

	"lockgate/api"
	"lockgate/disk"
	"lockgate/wal"
)

// The chapter's example.
func TestExample(t *testing.T) {
	d := disk.New()
	l := opened(t, "new", d, held{})
	check(t, "add", l.Add([]byte("a")), api.OK)
	check(t, "flush", l.Flush(), api.OK)
	check(t, "add", l.Add([]byte("b")), api.OK)
	d.Crash(0, 0)
	opened(t, "behind the crash", d, held{recs: []string{"a"}})
}

// P8.1: an empty front area is an empty picture and no records, whatever stands in the other one, and no change is done.
func TestOpenEmpty(t *testing.T) {
	for _, steps := range []string{
		"", "f1", "f0", "1=x", "f1 0=x", "f1 s", "0=x w0", "0=x s w0", "0= s", "1=" + framed("p", "a") + " s", "f1 s 0=" + framed("p"),
	} {
		want, got := disk.New(), disk.New()
		play(t, want, steps)
		play(t, got, steps)
		// Were a change done, the disk would be down.
		want.Arm(1)
		got.Arm(1)
		opened(t, steps, got, held{})
		checkSame(t, steps, got, want)
	}
}

// P8.1: the frames from the front area's beginning on tell picture and records; what stands behind them, cut off anywhere or wrong, is left out.
func TestOpen(t *testing.T) {
	all := make([]byte, 256)
	for i := range all {
		all[i] = byte(i)
	}
	big := strings.Repeat("b", 70000)
	for _, texts := range [][]string{
		{""}, {"p"}, {"", ""}, {"", "a"}, {"p", ""}, {"p", "a"}, {"p", "a", "", "bb", "a"}, {string(all), "x"}, {"x", string(all)}, {big, big, "c"}, {framed("p"), framed("a", "b")},
	} {
		frames := framed(texts...)
		for _, behind := range []string{
			"", "\x00", "x", "\x00\x00\x00\x00", emptyFrame[:11], framed("more")[:15], wrong(framed("more"), 13), wrong(framed("more"), 5), wrong(framed("more"), 13) + framed("right"), strings.Repeat("\xff", 100),
		} {
			for front := range 2 {
				for _, synced := range []bool{false, true} {
					d := laid(t, front, frames+behind, "the other area", synced)
					opened(t, "open", d, held{texts[0], texts[1:]})
					checkOpened(t, d, front, frames+behind, frames)
				}
			}
		}
	}
}

// P8.1: frames that end anywhere tell those that stand there wholly, as far as the picture's does.
func TestOpenCut(t *testing.T) {
	texts := []string{"pic", "a", "", "four", "e"}
	frames := framed(texts...)
	for end := 1; end <= len(frames); end++ {
		d := laid(t, end%2, frames[:end], framed("q", "r"), true)
		whole := 0
		for whole < len(texts) && len(framed(texts[:whole+1]...)) <= end {
			whole++
		}
		if whole == 0 {
			refused(t, "cut", d, api.ErrBytes)
			continue
		}
		opened(t, "cut", d, held{texts[0], texts[1:whole]})
		checkOpened(t, d, end%2, frames[:end], framed(texts[:whole]...))
	}
}

// P8.1: a beginning of an empty picture's frame is as that frame.
func TestOpenTorn(t *testing.T) {
	for end := 1; end <= len(emptyFrame); end++ {
		for front := range 2 {
			d := laid(t, front, emptyFrame[:end], framed("q", "r"), end%3 == 0)
			l := opened(t, "torn", d, held{})
			checkOpened(t, d, front, emptyFrame[:end], emptyFrame)
			check(t, "add", l.Add([]byte("a")), api.OK)
			opened(t, "torn, and added", d, held{recs: []string{"a"}})
		}
	}
}

// P8.1: bytes that no frame begins, and that are no beginning of an empty picture's, are nothing; the disk stays as it was.
func TestOpenBytes(t *testing.T) {
	contents := []string{
		"n", "nothing", "\x01", "\x00\x01", "\x00\x00\x00\x01", emptyFrame[1:], emptyFrame[4:], strings.Repeat("\x00", 12), strings.Repeat("\xff", 40),
		framed("p")[:12], framed("p")[:5], framed("p", "a")[1:], "x" + framed("p"), wrong(framed("p"), 12) + framed("a"),
		emptyFrame[:4] + "x", emptyFrame[:11] + framed("p"), framed(strings.Repeat("m", api.MaxFrame+1)),
	}
	for at := range emptyFrame {
		contents = append(contents, wrong(emptyFrame, at), wrong(emptyFrame, at)[:at+1])
	}
	frame := framed("pq")
	for at := range frame {
		contents = append(contents, wrong(frame, at), wrong(frame, at)+framed("a"))
	}
	for i, b := range contents {
		for _, synced := range []bool{false, true} {
			want := laid(t, i%2, b, framed("q", "r"), synced)
			got := want.Clone()
			refused(t, "bytes", got, api.ErrBytes)
			if len(b) < 1000 {
				checkSame(t, "bytes", got, want)
			}
		}
	}
}

// P8.1: a disk that is down is told ahead of what stands there, and nothing is done.
func TestOpenDown(t *testing.T) {
	for _, b := range []string{"", "nothing", emptyFrame[:5], emptyFrame, framed("p", "a"), framed("p", "a") + "x"} {
		for front := range 2 {
			d := laid(t, front, b, "the other area", false)
			d.Arm(0)
			want := d.Clone()
			refused(t, "down", d, api.ErrDown)
			checkSame(t, "down", d, want)
		}
	}
}

// P8.1: what an Open changes: the other area is wiped, the frames appended to it, sync, in front, sync; cut off at any change, it answers the disk's error.
func TestOpenChanges(t *testing.T) {
	for _, c := range []struct {
		content string
		frames  []string
	}{
		{emptyFrame[:3], []string{""}},
		{emptyFrame, []string{""}},
		{framed("p"), []string{"p"}},
		{framed("p", "a", "b"), []string{"p", "a", "b"}},
		{framed("p", "a", "b") + "rest", []string{"p", "a", "b"}},
	} {
		for front := range 2 {
			for n := -1; n < 8; n++ {
				start := laid(t, front, c.content, "ot", false)
				start.Arm(n)
				want, got := start.Clone(), start.Clone()
				e := replaceByHand(want, framed(c.frames...))
				if (e == api.OK) != (n < 0 || n >= 5) {
					t.Fatalf("%d changes are left: %d", n, e)
				}
				if e == api.OK {
					opened(t, "armed", got, held{c.frames[0], c.frames[1:]})
				} else {
					refused(t, "armed", got, e)
				}
				checkSame(t, "armed", got, want)
			}
		}
	}
}

// P8.2: records are appended to the front area, each as one change; ahead of the first one on an empty area stands an empty picture's frame.
func TestAdd(t *testing.T) {
	for front := range 2 {
		for _, content := range []string{"", emptyFrame, framed("p"), framed("p", "a")} {
			d := laid(t, front, content, "other", true)
			l, _, _, e := wal.Open(d)
			check(t, "open", e, api.OK)
			area, at := d.First()
			check(t, "first", at, api.OK)
			other, _ := d.Read(1 - area)
			want := content
			if want == "" {
				want = emptyFrame
			}
			for i, rec := range []string{"a", "", "ccc", framed("x"), strings.Repeat("r", 70000), "\x00\xff\x80"} {
				check(t, "add", l.Add([]byte(rec)), api.OK)
				want += framed(rec)
				checkArea(t, "add", d, area, want)
				checkArea(t, "add", d, 1-area, string(other))
				if now, _ := d.First(); now != area || d.Loose() != i+1 {
					t.Errorf("behind %d adds: %d in front, %d loose", i+1, now, d.Loose())
				}
			}
		}
	}
}

// P8.2: the bytes of a first record, worked out apart by chapters 2 and 4.
func TestAddBytes(t *testing.T) {
	d := disk.New()
	l := opened(t, "new", d, held{})
	check(t, "add", l.Add([]byte("a")), api.OK)
	checkArea(t, "add", d, 0, "\x00\x00\x00\x00\xf5\x13\xce\x9d\x7f\x76\x25\x4d"+"\x01\x00\x00\x00\x7f\xdd\xdb\xa7\xae\x0d\x0d\xd8a")
}

// P8.2: records and pictures of MaxFrame bytes are held.
func TestLongest(t *testing.T) {
	longest := strings.Repeat("l", api.MaxFrame)
	d := disk.New()
	l := opened(t, "new", d, held{})
	check(t, "add", l.Add([]byte(longest)), api.OK)
	check(t, "add", l.Add([]byte("a")), api.OK)
	l = opened(t, "a longest record", d, held{recs: []string{longest, "a"}})
	check(t, "save", l.Save([]byte(longest)), api.OK)
	check(t, "add", l.Add([]byte("b")), api.OK)
	opened(t, "a longest picture", d, held{longest, []string{"b"}})
}

// P8.2: a Flush is one sync, on whatever stands there.
func TestFlush(t *testing.T) {
	for _, recs := range [][]string{nil, {"a"}, {"a", "", "bb"}} {
		d := disk.New()
		l := opened(t, "new", d, held{})
		for _, rec := range recs {
			check(t, "add", l.Add([]byte(rec)), api.OK)
		}
		want := d.Clone()
		check(t, "sync", want.Sync(), api.OK)
		// Were there one change more, the disk would be down.
		want.Arm(1)
		d.Arm(2)
		check(t, "flush", l.Flush(), api.OK)
		checkSame(t, "flush", d, want)
		d.Crash(0, 0)
		opened(t, "flushed", d, held{recs: recs})
	}
}

// P8.2: behind a Save the log holds the picture alone, all of it lasting; it goes on from there.
func TestSave(t *testing.T) {
	for _, content := range []string{"", framed("p"), framed("p", "a", "b")} {
		for _, picture := range []string{"", "x", "picture", framed("in", "it"), strings.Repeat("s", 70000)} {
			d := laid(t, len(picture)%2, content, "other", true)
			l, _, _, e := wal.Open(d)
			check(t, "open", e, api.OK)
			check(t, "add", l.Add([]byte("gone")), api.OK)
			check(t, "save", l.Save([]byte(picture)), api.OK)
			lost := d.Clone()
			lost.Crash(0, 0)
			opened(t, "saved", lost, held{picture: picture})
			area, _ := d.First()
			checkArea(t, "saved", d, area, framed(picture))
			check(t, "add", l.Add([]byte("new")), api.OK)
			checkArea(t, "saved, and added", d, area, framed(picture, "new"))
			check(t, "save", l.Save([]byte("next")), api.OK)
			checkArea(t, "saved twice", d, 1-area, framed("next"))
			checkArea(t, "saved twice", d, area, framed(picture, "new"))
			opened(t, "saved twice", d, held{picture: "next"})
		}
	}
}

// P8.2: what Add, Flush and Save change, and that they answer the disk's error where they are cut off.
func TestChanges(t *testing.T) {
	for _, c := range []struct {
		name   string
		needs  int
		byHand func(d *disk.Disk) api.Errno
		call   func(l *wal.Log) api.Errno
	}{
		{"add", 1, func(d *disk.Disk) api.Errno {
			area, e := d.First()
			if e != api.OK {
				return e
			}
			if b, _ := d.Read(area); len(b) == 0 {
				return d.Append(area, []byte(framed("", "rec")))
			}
			return d.Append(area, []byte(framed("rec")))
		}, func(l *wal.Log) api.Errno { return l.Add([]byte("rec")) }},
		{"flush", 1, (*disk.Disk).Sync, (*wal.Log).Flush},
		{"save", 5, func(d *disk.Disk) api.Errno { return replaceByHand(d, framed("all")) }, func(l *wal.Log) api.Errno { return l.Save([]byte("all")) }},
		{"save nothing", 5, func(d *disk.Disk) api.Errno { return replaceByHand(d, emptyFrame) }, func(l *wal.Log) api.Errno { return l.Save(nil) }},
	} {
		for _, adds := range []string{"", "a", "a b"} {
			for n := -1; n < 8; n++ {
				got := disk.New()
				l := opened(t, "new", got, held{})
				for _, rec := range strings.Fields(adds) {
					check(t, "add", l.Add([]byte(rec)), api.OK)
				}
				got.Arm(n)
				want := got.Clone()
				e := c.byHand(want)
				if (e == api.OK) != (n < 0 || n >= c.needs) {
					t.Fatalf("%s, %d changes are left: %d", c.name, n, e)
				}
				check(t, c.name, c.call(l), e)
				checkSame(t, c.name, got, want)
			}
		}
	}
}

// P8.2: on a disk that is down every call answers so, and does nothing; the front area's bytes are as many as ahead.
func TestDown(t *testing.T) {
	d := disk.New()
	l := opened(t, "new", d, held{})
	for _, rec := range []string{"", "a", "bb"} {
		size := l.Size()
		d.Arm(0)
		want := d.Clone()
		for range 2 {
			check(t, "add", l.Add([]byte("x")), api.ErrDown)
			check(t, "flush", l.Flush(), api.ErrDown)
			check(t, "save", l.Save([]byte("x")), api.ErrDown)
			if l.Size() != size {
				t.Errorf("down: %d bytes, not %d", l.Size(), size)
			}
		}
		checkSame(t, "down", d, want)
		d.Crash(9, 0)
		check(t, "add", l.Add([]byte(rec)), api.OK)
	}
	opened(t, "up again", d, held{recs: []string{"", "a", "bb"}})
}

// P8.2: Size is the front area's bytes, all of them, loose or not; to ask for it changes nothing.
func TestSize(t *testing.T) {
	d := disk.New()
	l := opened(t, "new", d, held{})
	checkSize(t, d, l, 0)
	check(t, "flush", l.Flush(), api.OK)
	checkSize(t, d, l, 0)
	check(t, "add", l.Add([]byte("a")), api.OK)
	checkSize(t, d, l, 25)
	check(t, "add", l.Add(nil), api.OK)
	checkSize(t, d, l, 37)
	check(t, "flush", l.Flush(), api.OK)
	checkSize(t, d, l, 37)
	check(t, "save", l.Save([]byte("all")), api.OK)
	checkSize(t, d, l, 15)
	check(t, "save", l.Save(nil), api.OK)
	checkSize(t, d, l, 12)
	check(t, "add", l.Add(make([]byte, 1<<14)), api.OK)
	checkSize(t, d, l, 12+12+1<<14)
	play(t, d, "0=x 1=x")
	checkSize(t, d, l, 12+12+1<<14+1)
	l, _, _, e := wal.Open(d)
	check(t, "open", e, api.OK)
	checkSize(t, d, l, 12+12+1<<14)
}

// P8.2: a log goes by what its disk has, even where a crash has taken away what the log added, or put another area in front.
func TestBehindCrash(t *testing.T) {
	d := disk.New()
	l := opened(t, "new", d, held{})
	check(t, "add", l.Add([]byte("lost")), api.OK)
	d.Crash(0, 0)
	checkSize(t, d, l, 0)
	check(t, "add", l.Add([]byte("a")), api.OK)
	checkArea(t, "behind a crash", d, 0, framed("", "a"))
	check(t, "flush", l.Flush(), api.OK)
	d.Arm(4)
	check(t, "save", l.Save([]byte("lost")), api.ErrDown)
	d.Crash(0, 0)
	checkSize(t, d, l, 25)
	check(t, "add", l.Add([]byte("b")), api.OK)
	opened(t, "behind two crashes", d.Clone(), held{recs: []string{"a", "b"}})
	check(t, "flush", l.Flush(), api.OK)
	d.Arm(4)
	check(t, "save", l.Save([]byte("kept")), api.ErrDown)
	d.Crash(1, 0)
	checkSize(t, d, l, 16)
	check(t, "add", l.Add([]byte("c")), api.OK)
	opened(t, "behind three crashes", d, held{"kept", []string{"c"}})
}

// P8.2: two logs on one disk tell and do the same, for both are what stands there.
func TestTwoLogs(t *testing.T) {
	d := disk.New()
	one := opened(t, "one", d, held{})
	two := opened(t, "two", d, held{})
	check(t, "one adds", one.Add([]byte("a")), api.OK)
	check(t, "one flushes", one.Flush(), api.OK)
	checkSize(t, d, two, 25)
	check(t, "two adds", two.Add([]byte("b")), api.OK)
	opened(t, "both added", d.Clone(), held{recs: []string{"a", "b"}})
	check(t, "two saves", two.Save([]byte("p")), api.OK)
	checkSize(t, d, one, 13)
	check(t, "one adds", one.Add([]byte("c")), api.OK)
	opened(t, "saved and added", d, held{"p", []string{"c"}})
}

// P8.4: what is handed in stays, with what lies behind it, and isn't kept.
func TestHandedIn(t *testing.T) {
	d := disk.New()
	l := opened(t, "new", d, held{})
	whole := []byte("recrest")
	check(t, "add", l.Add(whole[:3]), api.OK)
	check(t, "add", l.Add(whole[3:3]), api.OK)
	if string(whole) != "recrest" {
		t.Errorf("add: %q", whole)
	}
	copy(whole, "xxxxxxx")
	opened(t, "added", d.Clone(), held{recs: []string{"rec", ""}})
	copy(whole, "picrest")
	check(t, "save", l.Save(whole[:3]), api.OK)
	if string(whole) != "picrest" {
		t.Errorf("save: %q", whole)
	}
	copy(whole, "xxxxxxx")
	opened(t, "saved", d, held{picture: "pic"})
}

// P8.4: what is answered is new memory: to write into one of it, or behind its end, changes no other one, nor the disk, nor what is opened next.
func TestAnswered(t *testing.T) {
	want := held{"same", []string{"a", "bb", "same", "", "a", "dddd"}}
	d := laid(t, 0, framed("same", "a", "bb", "same", "", "a", "dddd")+"rest", "", true)
	_, p, recs, e := wal.Open(d)
	check(t, "open", e, api.OK)
	all := append([][]byte{p}, recs...)
	texts := append([]string{want.picture}, want.recs...)
	for i, b := range all {
		_ = append(b, "behind"...)
		scribble(b)
		texts[i] = strings.Repeat("!", len(b))
		for j := range all {
			if string(all[j]) != texts[j] {
				t.Fatalf("behind writing into %d: %d is %q, not %q", i, j, all[j], texts[j])
			}
		}
	}
	clear(recs)
	opened(t, "written into", d.Clone(), want)

	_, p, recs, e = wal.Open(d)
	check(t, "open", e, api.OK)
	check(t, "save", reopened(t, d).Save([]byte("other")), api.OK)
	got := held{picture: string(p)}
	for _, rec := range recs {
		got.recs = append(got.recs, string(rec))
	}
	if !got.same(want) {
		t.Errorf("behind a save: %q, not %q", got, want)
	}
}
