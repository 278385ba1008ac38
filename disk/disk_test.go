package disk_test

import (
	"bytes"
	"math"
	"math/rand"
	"slices"
	"strconv"
	"strings"
	"testing"

	"lockgate/api"
	"lockgate/disk"
)

// P7.1: a new disk has two empty areas, the first one in front, and is up; none shares anything with another one.
func TestNew(t *testing.T) {
	d := disk.New()
	checkTold(t, "new", d, fresh)
	if d.Down() || d.Loose() != 0 {
		t.Errorf("new: down %v, %d loose", d.Down(), d.Loose())
	}
	other := disk.New()
	play(t, other, "0=x 1=y f1 s")
	checkTold(t, "new, beside another one", d, fresh)
}

// P7.1: what is read is all changes' doing, whether they are loose or not; and which ones are loose.
func TestChanges(t *testing.T) {
	for _, c := range []struct {
		steps string
		want  told
		loose int
	}{
		{"0=a", told{"a", "", 0}, 1},
		{"1=a", told{"", "a", 0}, 1},
		{"0=a 0=bc", told{"abc", "", 0}, 2},
		{"0=a 1=b 0=c 1=d", told{"ac", "bd", 0}, 4},
		{"0=", told{"", "", 0}, 1},
		{"0=a w0", told{"", "", 0}, 2},
		{"0=a w1", told{"a", "", 0}, 2},
		{"0=a 1=b w1", told{"a", "", 0}, 3},
		{"0=a w0 0=b", told{"b", "", 0}, 3},
		{"w0 w1", told{"", "", 0}, 2},
		{"f1", told{"", "", 1}, 1},
		{"f0", told{"", "", 0}, 1},
		{"f1 f0", told{"", "", 0}, 2},
		{"f1 f1", told{"", "", 1}, 2},
		{"f1 0=a 1=b", told{"a", "b", 1}, 3},
		{"0=a f1 w0", told{"", "", 1}, 3},
		{"s", told{"", "", 0}, 0},
		{"s s", told{"", "", 0}, 0},
		{"0=a s", told{"a", "", 0}, 0},
		{"0=a 1=b f1 w0 s", told{"", "b", 1}, 0},
		{"0=a s 0=b", told{"ab", "", 0}, 1},
		{"0=a s w0", told{"", "", 0}, 1},
		{"0=a s w0 s 0=b s 1=c", told{"b", "c", 0}, 1},
		{"f1 s f0", told{"", "", 0}, 1},
	} {
		d := disk.New()
		play(t, d, c.steps)
		checkTold(t, c.steps, d, c.want)
		if d.Loose() != c.loose {
			t.Errorf("%s: %d loose, not %d", c.steps, d.Loose(), c.loose)
		}
	}
}

// P7.1: bytes of every kind and of many lengths are appended as they are.
func TestBytes(t *testing.T) {
	all := make([]byte, 256)
	for i := range all {
		all[i] = byte(i)
	}
	for _, b := range [][]byte{nil, {}, {0}, all, []byte("\x80\xffé"), bytes.Repeat([]byte{7}, 1<<20)} {
		for _, area := range []int{0, 1} {
			d := disk.New()
			check(t, "append", d.Append(area, b), api.OK)
			check(t, "append", d.Append(area, b), api.OK)
			got, e := d.Read(area)
			if want := slices.Concat(b, b); e != api.OK || !bytes.Equal(got, want) {
				t.Errorf("%d bytes twice: %d of them, error %d", len(b), len(got), e)
			}
		}
	}
}

// P7.1: an area that there isn't is told so, up and down, and nothing is done.
func TestWrongAreas(t *testing.T) {
	for _, area := range []int{-1, 2, 3, -2, 256, 1 << 32, math.MaxInt, math.MinInt} {
		d := disk.New()
		play(t, d, "0=a 1=b s 1=c f1")
		for _, down := range []bool{false, true} {
			if down {
				d.Arm(0)
			} else {
				// A call that is refused is none of the changes that are left.
				d.Arm(1)
			}
			check(t, "append", d.Append(area, []byte("x")), api.ErrArg)
			check(t, "append nothing", d.Append(area, nil), api.ErrArg)
			check(t, "wipe", d.Wipe(area), api.ErrArg)
			check(t, "front", d.Front(area), api.ErrArg)
			if b, e := d.Read(area); len(b) != 0 || e != api.ErrArg {
				t.Errorf("read of %d: %q, %d", area, b, e)
			}
			if d.Down() != down || d.Loose() != 2 {
				t.Errorf("area %d: down %v, %d loose", area, d.Down(), d.Loose())
			}
		}
		d.Crash(9, 9)
		checkTold(t, "behind wrong areas", d, told{"a", "bc", 1})
	}
}

// P7.1: a disk that is down tells so, and does nothing.
func TestDown(t *testing.T) {
	for _, area := range []int{0, 1} {
		d := disk.New()
		play(t, d, "0=a 1=b s 0=c 1=d f1")
		d.Arm(0)
		for range 3 {
			check(t, "append", d.Append(area, []byte("x")), api.ErrDown)
			check(t, "wipe", d.Wipe(area), api.ErrDown)
			check(t, "front", d.Front(area), api.ErrDown)
			check(t, "sync", d.Sync(), api.ErrDown)
			if b, e := d.Read(area); len(b) != 0 || e != api.ErrDown {
				t.Errorf("read of %d: %q, %d", area, b, e)
			}
			if n, e := d.First(); n != 0 || e != api.ErrDown {
				t.Errorf("first: %d, %d", n, e)
			}
			if !d.Down() || d.Loose() != 3 {
				t.Errorf("down %v, %d loose", d.Down(), d.Loose())
			}
		}
		lost := d.Clone()
		lost.Crash(0, 0)
		checkTold(t, "nothing is kept", lost, told{"a", "b", 0})
		d.Crash(9, 9)
		checkTold(t, "all is kept", d, told{"ac", "bd", 1})
	}
}

// P7.2: behind Arm(n) as many changes are done, of whatever kind, and at the last one of them the disk goes down.
func TestArm(t *testing.T) {
	steps := strings.Fields("0=a s w1 1=b f1 s 0= w0 0=c f0")
	for from := range steps {
		for n := range len(steps) + 2 {
			d := disk.New()
			d.Arm(n)
			for i := range steps {
				step := steps[(from+i)%len(steps)]
				if d.Down() != (i >= n) {
					t.Fatalf("Arm(%d), behind %d changes: down %v", n, i, d.Down())
				}
				if i < n {
					check(t, step, do(d, step), api.OK)
				} else {
					check(t, step, do(d, step), api.ErrDown)
				}
			}
			if d.Down() != (n <= len(steps)) {
				t.Fatalf("Arm(%d), behind all: down %v", n, d.Down())
			}
		}
	}
}

// P7.2: what isn't a change isn't counted.
func TestArmCountsChanges(t *testing.T) {
	d := disk.New()
	play(t, d, "0=a")
	d.Arm(1)
	for range 3 {
		checkTold(t, "armed", d, told{"a", "", 0})
		d.Clone().Crash(1, 1)
		if d.Loose() != 1 || d.Down() {
			t.Fatalf("armed: %d loose, down %v", d.Loose(), d.Down())
		}
	}
	check(t, "sync", d.Sync(), api.OK)
	if !d.Down() {
		t.Error("the one change that was left is done, and the disk is up")
	}
}

// P7.2: a later Arm counts anew; one below 0 lets the disk go on.
func TestArmAnew(t *testing.T) {
	for _, below := range []int{-1, -2, math.MinInt} {
		d := disk.New()
		d.Arm(1)
		d.Arm(below)
		play(t, d, "0=a 0=b s 0=c")
		d.Arm(below)
		play(t, d, "0=d")
		if d.Down() {
			t.Errorf("Arm(%d): down", below)
		}
		d.Arm(1)
		d.Arm(3)
		play(t, d, "0=e s")
		d.Arm(2)
		play(t, d, "0=f")
		if d.Down() {
			t.Errorf("armed anew: down too early")
		}
		play(t, d, "0=g")
		if !d.Down() {
			t.Errorf("armed anew: up")
		}
	}
	d := disk.New()
	d.Arm(math.MaxInt)
	play(t, d, "0=a s w0 s")
	if d.Down() {
		t.Error("armed with the most there is: down")
	}
	d.Arm(0)
	if !d.Down() {
		t.Error("Arm(0): up")
	}
}

// P7.2: while the disk is down, Arm does nothing: not even later, behind a crash.
func TestArmWhileDown(t *testing.T) {
	for _, n := range []int{-1, 0, 1, 2, math.MaxInt, math.MinInt} {
		d := disk.New()
		play(t, d, "0=a")
		d.Arm(0)
		d.Arm(n)
		if !d.Down() || d.Loose() != 1 {
			t.Errorf("Arm(%d) while down: down %v, %d loose", n, d.Down(), d.Loose())
		}
		check(t, "append", d.Append(0, []byte("x")), api.ErrDown)
		d.Crash(1, 0)
		play(t, d, "0=b 0=c s 0=d s")
		checkTold(t, "behind the crash", d, told{"abcd", "", 0})
	}
}

// P7.3: what a crash leaves of loose changes.
func TestCrash(t *testing.T) {
	for _, c := range []struct {
		steps      string
		keep, torn int
		want       told
	}{
		{"", 0, 0, fresh},
		{"", 5, 5, fresh},
		{"0=ab", 0, 0, fresh},
		{"0=ab", 0, 1, told{"a", "", 0}},
		{"0=ab", 0, 2, told{"ab", "", 0}},
		{"0=ab", 0, 3, told{"ab", "", 0}},
		{"0=ab", 0, math.MaxInt, told{"ab", "", 0}},
		{"0=ab", 0, -1, fresh},
		{"0=ab", 0, math.MinInt, fresh},
		{"0=ab", 1, 0, told{"ab", "", 0}},
		{"0=ab", 1, -1, told{"ab", "", 0}},
		{"0=ab", 2, 0, told{"ab", "", 0}},
		{"0=ab", math.MaxInt, 0, told{"ab", "", 0}},
		{"0=ab", -1, 0, fresh},
		{"0=ab", -1, 1, told{"a", "", 0}},
		{"0=ab", math.MinInt, 1, told{"a", "", 0}},
		{"0=ab 0=cd", 0, 9, told{"ab", "", 0}},
		{"0=ab 0=cd", 1, 1, told{"abc", "", 0}},
		{"0=ab 1=cd", 1, 1, told{"ab", "c", 0}},
		{"1=ab 0=cd", 0, 1, told{"", "a", 0}},
		{"0= 0=cd", 0, 1, fresh},
		{"0=ab s w0", 0, 9, told{"ab", "", 0}},
		{"0=ab s w0", 1, 0, fresh},
		{"0=ab s w0 0=cd", 0, 9, told{"ab", "", 0}},
		{"0=ab s w0 0=cd", 1, 1, told{"c", "", 0}},
		{"0=ab s w0 0=cd", 2, 0, told{"cd", "", 0}},
		{"f1", 0, 9, fresh},
		{"f1", 1, 0, told{"", "", 1}},
		{"f1 s f0", 0, 9, told{"", "", 1}},
		{"f1 s f0", 1, 9, fresh},
		{"1=ab s 1=cd f1 w0", 1, 9, told{"", "abcd", 0}},
		{"1=ab s 1=cd f1 w0", 2, 9, told{"", "abcd", 1}},
		{"0=ab s", 0, 0, told{"ab", "", 0}},
		{"0=ab s 0=cd s 0=ef", 0, 1, told{"abcde", "", 0}},
		{"0=ab 1=cd 0=ef 1=gh", 3, 1, told{"abef", "cdg", 0}},
	} {
		for _, down := range []bool{false, true} {
			d := disk.New()
			play(t, d, c.steps)
			if down {
				d.Arm(0)
			}
			d.Crash(c.keep, c.torn)
			name := c.steps + ": Crash(" + strconv.Itoa(c.keep) + ", " + strconv.Itoa(c.torn) + ")"
			checkTold(t, name, d, c.want)
			if d.Down() || d.Loose() != 0 {
				t.Errorf("%s: down %v, %d loose", name, d.Down(), d.Loose())
			}
			d.Crash(0, 0)
			checkTold(t, name+", and once more", d, c.want)
		}
	}
}

// P7.3: behind a crash the disk isn't armed, and goes on as any other one.
func TestBehindACrash(t *testing.T) {
	for _, n := range []int{0, 1, 2, 3} {
		d := disk.New()
		play(t, d, "0=a 0=b")
		d.Arm(n)
		d.Crash(1, 0)
		play(t, d, "1=c f1 s 0=d 1=ef")
		checkTold(t, "going on", d, told{"ad", "cef", 1})
		if d.Down() || d.Loose() != 2 {
			t.Errorf("going on: down %v, %d loose", d.Down(), d.Loose())
		}
		d.Crash(1, 1)
		checkTold(t, "a second crash", d, told{"ad", "ce", 1})
		d.Arm(1)
		play(t, d, "w1")
		if !d.Down() {
			t.Error("armed behind a crash: up")
		}
	}
}

// P7.4: a clone is the same in all, and what becomes of one of the two is nothing to the other one.
func TestClone(t *testing.T) {
	for _, steps := range []string{"", "0=ab", "0=ab 1=cd s", "0=ab 1=cd f1 s 0=ef w1 1=gh f0", "0=ab s w0"} {
		for _, n := range []int{-1, 0, 1, 2} {
			d, twin := disk.New(), disk.New()
			play(t, d, steps)
			play(t, twin, steps)
			d.Arm(n)
			twin.Arm(n)
			c := d.Clone()
			checkSame(t, steps, c, twin)
			spoil(d)
			checkSame(t, steps+", the first one spoilt", c, twin)
			second := c.Clone()
			spoil(second)
			checkSame(t, steps+", the second one spoilt", c, twin)
			for _, step := range []string{"0=x", "s", "f1", "1=y", "w0"} {
				check(t, step, do(c, step), do(twin, step))
				checkSame(t, steps+" and on to "+step, c, twin)
			}
		}
	}
}

// P7.4: a clone and the disk it was made of go on by turns, each in its own way.
func TestCloneByTurns(t *testing.T) {
	for _, steps := range []string{"0=a", "0=abc s", "0=a 0=b 1=c", "0=a 0=b 1=c 1=d 0=e", "0=abcdef s 0=g 1=h 1=i", "0=a s 0=b 0=c s 0=d"} {
		for _, crashed := range []bool{false, true} {
			d, first, second := disk.New(), disk.New(), disk.New()
			for _, x := range []*disk.Disk{d, first, second} {
				play(t, x, steps)
				if crashed {
					x.Crash(1, 1)
				}
			}
			c := d.Clone()
			for _, turn := range [][2]string{{"0=x", "0=y"}, {"1=x", "1=y"}, {"f1", "0=yy"}, {"1=xx", "w1"}, {"s", "1=yyy"}, {"0=xxx", "s"}, {"1=x", "f1"}} {
				play(t, d, turn[0])
				play(t, first, turn[0])
				play(t, c, turn[1])
				play(t, second, turn[1])
				checkSame(t, steps+", the first one at "+turn[0], d, first)
				checkSame(t, steps+", the clone at "+turn[1], c, second)
			}
		}
	}
}

// spoil does to a disk all that can be done to it.
func spoil(d *disk.Disk) {
	d.Append(0, []byte("spoilt"))
	d.Crash(1, 3)
	for _, step := range []string{"f1", "w0", "0=spoilt", "w1", "1=spoilt", "s", "0=more", "f0"} {
		do(d, step)
	}
	d.Arm(0)
}

// P7.5: behind whatever crash all that was done ahead of the last sync is there, and of what was done behind it no more than a beginning.
func TestSyncedStays(t *testing.T) {
	ahead, behind := "0=ab 1=cd f1 w0 0=ef s", []string{"0=gh", "1=ij", "0=kl", "1=mn"}
	for count := range len(behind) + 1 {
		for keep := -1; keep <= count+1; keep++ {
			for torn := -1; torn <= 3; torn++ {
				d := disk.New()
				play(t, d, ahead)
				play(t, d, strings.Join(behind[:count], " "))
				d.Crash(keep, torn)
				a, _ := d.Read(0)
				b, _ := d.Read(1)
				front, _ := d.First()
				if !strings.HasPrefix("efghkl", string(a)) || !strings.HasPrefix("cdijmn", string(b)) || len(a) < 2 || len(b) < 2 || front != 1 {
					t.Errorf("%d changes, Crash(%d, %d): %q, %q, %d", count, keep, torn, a, b, front)
				}
			}
		}
	}
}

// P7.1 to P7.5: whatever is done, the disk tells what a list of all that was ever done tells.
func TestAgainstAList(t *testing.T) {
	for seed := range 300 {
		random := rand.New(rand.NewSource(int64(seed)))
		d, m := disk.New(), &list{left: -1}
		for range 150 {
			d, m = oneMore(t, random, d, m)
			checkList(t, "seed "+strconv.Itoa(seed), d, m)
			for _, keep := range []int{-1, 0, 1, random.Intn(9)} {
				torn := random.Intn(7) - 1
				c, n := d.Clone(), m.clone()
				c.Crash(keep, torn)
				n.crash(keep, torn)
				checkList(t, "seed "+strconv.Itoa(seed)+", crashed", c, n)
			}
			if t.Failed() {
				t.FailNow()
			}
		}
	}
}

// oneMore does something to both.
func oneMore(t *testing.T, random *rand.Rand, d *disk.Disk, m *list) (*disk.Disk, *list) {
	t.Helper()
	switch random.Intn(30) {
	case 0:
		keep, torn := random.Intn(8)-1, random.Intn(8)-1
		d.Crash(keep, torn)
		m.crash(keep, torn)
	case 1:
		n := random.Intn(12) - 1
		d.Arm(n)
		if m.left != 0 {
			m.left = n
		}
	case 2:
		return d.Clone(), m.clone()
	default:
		step := someStep(random)
		check(t, step, do(d, step), m.do(step))
	}
	return d, m
}

func someStep(random *rand.Rand) string {
	area := strconv.Itoa(random.Intn(2))
	switch random.Intn(9) {
	case 0:
		return "s"
	case 1:
		return "w" + area
	case 2:
		return "f" + area
	case 3:
		return []string{"w2", "f2", "2=ab"}[random.Intn(3)]
	}
	return area + "=" + "abcdefghij"[random.Intn(5):5+random.Intn(6)]
}

// P7.6: what is appended stays as it was handed in, and isn't kept.
func TestHandedInStays(t *testing.T) {
	room := []byte("abcdef")
	b := room[1:3]
	d := disk.New()
	for range 4 {
		check(t, "append", d.Append(0, b), api.OK)
		check(t, "append", d.Append(1, b), api.OK)
	}
	check(t, "sync", d.Sync(), api.OK)
	check(t, "append", d.Append(0, b), api.OK)
	d.Clone().Crash(0, 1)
	if string(room) != "abcdef" {
		t.Errorf("what was handed in is %q", room)
	}
	c := d.Clone()
	copy(room, "??????")
	checkTold(t, "the bytes handed in are written over", d, told{"bcbcbcbcbc", "bcbcbcbc", 0})
	checkTold(t, "and a clone", c, told{"bcbcbcbcbc", "bcbcbcbc", 0})
	d.Crash(1, 0)
	checkTold(t, "and a crash", d, told{"bcbcbcbcbc", "bcbcbcbc", 0})
	c.Crash(0, 1)
	checkTold(t, "and a torn one", c, told{"bcbcbcbcb", "bcbcbcbc", 0})
}

// P7.6: what is read is new memory, up to its room's end.
func TestReadIsNew(t *testing.T) {
	for _, steps := range []string{"0=abc 1=def", "0=abc 1=def s", "0=a 0=bc 1=d s 1=ef", "0=abcx s 0=y 1=def w0 0=abc"} {
		d := disk.New()
		play(t, d, steps)
		for _, area := range []int{0, 1} {
			b, _ := d.Read(area)
			b = b[:cap(b)]
			for i := range b {
				b[i] = '?'
			}
		}
		checkTold(t, steps, d, told{"abc", "def", 0})
		kept, _ := d.Read(0)
		play(t, d, "0=gh 1=i w0 0=jkl s")
		if string(kept) != "abc" {
			t.Errorf("%s: what was read became %q", steps, kept)
		}
		c := d.Clone()
		c.Crash(0, 0)
		checkTold(t, steps+", crashed", c, told{"jkl", "defi", 0})
	}
}

// P7.3: the chapter's example.
func TestExample(t *testing.T) {
	d := disk.New()
	play(t, d, "0=ab s 0=cd f1")
	other := d.Clone()
	d.Crash(1, 0)
	checkTold(t, "Crash(1, 0)", d, told{"abcd", "", 0})
	other.Crash(0, 1)
	checkTold(t, "Crash(0, 1)", other, told{"abc", "", 0})
}
