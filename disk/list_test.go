package disk_test

import (
	"slices"
	"strings"
	"testing"

	"lockgate/api"
	"lockgate/disk"
)

// told is what a disk tells of its areas.
type told struct {
	zero, one string
	front     int
}

var fresh told

// do does one step: "0=ab" and "1=ab" append, "w0" wipes, "f0" puts in front, "s" syncs.
func do(d *disk.Disk, step string) api.Errno {
	switch step[0] {
	case 's':
		return d.Sync()
	case 'w':
		return d.Wipe(int(step[1] - '0'))
	case 'f':
		return d.Front(int(step[1] - '0'))
	}
	return d.Append(int(step[0]-'0'), []byte(step[2:]))
}

// play does steps, of which each must be done.
func play(t *testing.T, d *disk.Disk, steps string) {
	t.Helper()
	for _, step := range strings.Fields(steps) {
		check(t, step, do(d, step), api.OK)
	}
}

func check(t *testing.T, name string, got, want api.Errno) {
	t.Helper()
	if got != want {
		t.Errorf("%s: error %d, not %d", name, got, want)
	}
}

// checkTold asks that the disk is up, and tells what is wanted.
func checkTold(t *testing.T, name string, d *disk.Disk, want told) {
	t.Helper()
	a, e := d.Read(0)
	check(t, name+", read 0", e, api.OK)
	b, e := d.Read(1)
	check(t, name+", read 1", e, api.OK)
	front, e := d.First()
	check(t, name+", first", e, api.OK)
	if got := (told{string(a), string(b), front}); got != want {
		t.Errorf("%s: %v, not %v", name, got, want)
	}
}

// checkSame asks that two disks tell the same, now, and of whatever a crash would leave, and of the changes that are left.
func checkSame(t *testing.T, name string, got, want *disk.Disk) {
	t.Helper()
	if got.Down() != want.Down() || got.Loose() != want.Loose() {
		t.Errorf("%s: down %v, %d loose", name, got.Down(), got.Loose())
	}
	if !want.Down() {
		checkTold(t, name, got, tells(want))
	}
	for keep := range want.Loose() + 1 {
		for torn := range 4 {
			x, y := got.Clone(), want.Clone()
			x.Crash(keep, torn)
			y.Crash(keep, torn)
			checkTold(t, name+", crashed", x, tells(y))
		}
	}
	x, y := got.Clone(), want.Clone()
	for range 4 {
		check(t, name+", a further sync", x.Sync(), y.Sync())
	}
}

func tells(d *disk.Disk) told {
	a, _ := d.Read(0)
	b, _ := d.Read(1)
	front, _ := d.First()
	return told{string(a), string(b), front}
}

// list is a disk worked out apart: all steps that are lasting, and those that are loose; left: how many changes until it goes down, below 0: it isn't armed.
type list struct {
	lasting []string
	loose   []string
	left    int
}

func (m *list) clone() *list {
	return &list{slices.Clone(m.lasting), slices.Clone(m.loose), m.left}
}

func (m *list) do(step string) api.Errno {
	if slices.Contains([]string{"w2", "f2", "2=ab"}, step) {
		return api.ErrArg
	}
	if m.left == 0 {
		return api.ErrDown
	}
	if m.left > 0 {
		m.left--
	}
	if step == "s" {
		m.lasting, m.loose = append(m.lasting, m.loose...), nil
	} else {
		m.loose = append(m.loose, step)
	}
	return api.OK
}

func (m *list) crash(keep, torn int) {
	for i, step := range m.loose {
		if i < keep {
			m.lasting = append(m.lasting, step)
		} else if i == max(keep, 0) && step[1] == '=' {
			m.lasting = append(m.lasting, step[:min(len(step), 2+max(torn, 0))])
		}
	}
	m.loose, m.left = nil, -1
}

// tells goes through all steps from the beginning on.
func (m *list) tells() told {
	var x told
	for _, step := range slices.Concat(m.lasting, m.loose) {
		switch {
		case step == "w0":
			x.zero = ""
		case step == "w1":
			x.one = ""
		case step[0] == 'f':
			x.front = int(step[1] - '0')
		case step[0] == '0':
			x.zero += step[2:]
		case step[0] == '1':
			x.one += step[2:]
		}
	}
	return x
}

// checkList asks that the disk tells what the list tells.
func checkList(t *testing.T, name string, d *disk.Disk, m *list) {
	t.Helper()
	if d.Down() != (m.left == 0) || d.Loose() != len(m.loose) {
		t.Errorf("%s: down %v, not %v; %d loose, not %d", name, d.Down(), m.left == 0, d.Loose(), len(m.loose))
	}
	if m.left != 0 {
		checkTold(t, name, d, m.tells())
	}
}
