package store_test

import (
	"math/rand"
	"strconv"
	"strings"
	"testing"

	"lockgate/api"
	"lockgate/disk"
	"lockgate/store"
)

// torns are how many bytes of a change a crash may tear: about a frame's beginning, some, and all.
var torns = []int{-1, 0, 1, 11, 12, 13, 24, 25, 40, 1 << 20}

// mayBe is the model that the store on a disk is the same as.
func mayBe(t *testing.T, what string, d *disk.Disk, may ...model) model {
	t.Helper()
	s, e := store.Open(d, len(may[0]))
	if e != api.OK {
		t.Fatalf("%s: error %d", what, e)
	}
	for _, x := range may {
		if x.same(s) {
			return x.clone()
		}
	}
	t.Fatalf("%s: fence %d, floor %v, %s: neither of all nor of nothing", what, s.Fence(0), s.Floor(0), short(s.Rows(0)))
	return nil
}

// behindCrashes asks that the store on the disk is one of these, whatever a crash keeps and tears; and that it goes on behind it.
func behindCrashes(t *testing.T, what string, d *disk.Disk, may ...model) {
	t.Helper()
	for keep := -1; keep <= d.Loose(); keep++ {
		for _, torn := range torns {
			d := d.Clone()
			d.Crash(keep, torn)
			x := mayBe(t, what, d, may...)
			d.Crash(0, 0)
			w := opened(t, what+", again", d, x)
			w.tell(t, what+", gone on", fence(0, x[0].fence+1))
			w.tell(t, what+", gone on", flush(0, x[0].fence, 1, 0, put("more", 99, 99, "x")))
			w.reopened(t, what+", gone on", 0, 0)
		}
	}
}

// story is some messages, of which some make the log too long.
func story() []api.Msg {
	long := strings.Repeat("l", 9000)
	return []api.Msg{
		fence(0, 1),
		flush(0, 1, 1, 0, put("a", 1, 1, "x"), put("b", 1, 2, "y"), put("c", 1, 3, "z")),
		flush(1, 0, 1, 0, put("a", 1, 1, long)),
		flush(0, 1, 2, version(1, 3), put("a", 1, 4, long), del("b", 1, 5)),
		fence(1, 2),
		flush(0, 1, 3, version(1, 5), put("c", 1, 6, ""), put("d", 1, 7, "w")),
		fence(0, 3),
		flush(1, 2, 1, version(2, 1), put("a", 2, 2, ""), put("b", 2, 3, long+long)),
		flush(1, 2, 2, version(2, 2), del("b", 2, 4)),
		flush(1, 2, 3, version(2, 4), put("b", 2, 5, "new")),
	}
}

// P10.3: cut off at whichever change, and whatever of it is kept: all that was answered OK is there, and of what was cut off all or nothing.
func TestCrash(t *testing.T) {
	for n := 0; ; n++ {
		w := newTwin(t, 2)
		w.d.Arm(n)
		w.by.Arm(n)
		cut := false
		for i, m := range story() {
			what := "message " + strconv.Itoa(i) + " behind " + strconv.Itoa(n)
			after := w.x.clone()
			after.do(m)
			if w.tell(t, what, m) == api.OK {
				continue
			}
			// Where it was answered, and a Save was cut off, these are the same.
			behindCrashes(t, what, w.d, w.x, after)
			cut = true
			break
		}
		if !cut {
			if n < 2*len(story())+3*5 {
				t.Errorf("there were %d changes alone", n)
			}
			return
		}
	}
}

// P10.3: whenever a crash comes behind what was answered, all of that is there.
func TestAnswered(t *testing.T) {
	w := newTwin(t, 2)
	for i, m := range story() {
		w.tell(t, "told", m)
		behindCrashes(t, "behind message "+strconv.Itoa(i), w.d, w.x)
	}
}

// someMsg is a message as others may send it, old and late ones among them.
func someMsg(random *rand.Rand, x model) api.Msg {
	shard := random.Intn(len(x)+1) - random.Intn(2)*random.Intn(2)
	epoch, base := random.Intn(3), 0
	if x.has(shard) {
		epoch = x[shard].fence + random.Intn(8)/6 - random.Intn(8)/7
		base = int(real(x[shard].floor))
	}
	v := func() api.Ver { return version(max(0, base+random.Intn(4)-1), random.Intn(40)) }
	key := func() string { return strings.Repeat(string(rune('a'+random.Intn(5))), random.Intn(3)) }
	var m api.Msg
	switch random.Intn(6) {
	case 0:
		m = fence(shard, epoch+random.Intn(3)-1)
	case 1:
		m = read(shard, epoch, random.Intn(9), key())
	default:
		m = flush(shard, epoch, random.Intn(9), 0)
		if random.Intn(3) == 0 {
			m.Floor = v()
		}
		for range random.Intn(5) {
			e := put(key(), 0, 0, strings.Repeat("v", random.Intn(2)*random.Intn(1500)))
			e.Ver, e.Write, e.Del = v(), random.Intn(9) > 0, random.Intn(3) == 0
			m.Entries = append(m.Entries, e)
		}
	}
	if random.Intn(4) == 0 {
		m = noisy(m)
	}
	return m
}

// P10.2, P10.3: long lives with crash upon crash.
func TestLives(t *testing.T) {
	random := rand.New(rand.NewSource(10))
	saves := 0
	for life := range 60 {
		what := "life " + strconv.Itoa(life)
		w := newTwin(t, 1+random.Intn(3))
		for range 150 {
			if random.Intn(5) == 0 {
				n := random.Intn(9) - 1
				w.d.Arm(n)
				w.by.Arm(n)
			}
			before, after := w.x.clone(), w.x.clone()
			m := someMsg(random, w.x)
			if _, logged := w.x.answers(m); logged {
				after.do(m)
			}
			was := len(onDisk(w.d))
			e := w.tell(t, what, m)
			checkRises(t, what, before, w.x)
			if !w.d.Down() && len(onDisk(w.d)) < was {
				saves++
			}
			if e == api.OK && random.Intn(20) > 0 {
				continue
			}
			w.d.Crash(random.Intn(w.d.Loose()+2), random.Intn(3000))
			x := mayBe(t, what, w.d, w.x, after)
			checkRises(t, what, w.x, x)
			w = opened(t, what, w.d, x)
		}
	}
	if saves < 20 {
		t.Errorf("%d saves", saves)
	}
}

// checkRises asks that a fence never falls, nor a floor, nor a key's version: what is there no longer was deleted, and isn't behind the floor.
func checkRises(t *testing.T, what string, before, now model) {
	t.Helper()
	for shard, p := range before {
		if now[shard].fence < p.fence || ahead(now[shard].floor, p.floor) {
			t.Fatalf("%s: shard %d: %v comes behind %v", what, shard, now[shard], p)
		}
		for key, r := range p.rows {
			n, ok := now[shard].rows[key]
			if ok && ahead(n.Ver, r.Ver) || !ok && (!r.Del || ahead(now[shard].floor, r.Ver)) {
				t.Fatalf("%s: shard %d: %v became %v, %v", what, shard, r, n, ok)
			}
		}
	}
}
