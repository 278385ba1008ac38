package frame_test

import (
	"bytes"
	"encoding/binary"
	"hash/fnv"
	"math"
	"math/rand"
	"slices"
	"testing"

	"lockgate/api"
	"lockgate/frame"
)

// head is how many bytes of a frame stand ahead of its record.
const head = 12

// framed is a frame of what is handed over: by the library's sum, apart from the program.
func framed(rec []byte) []byte { return framedAs(len(rec), rec) }

// framedAs is rec's frame but for its length, with the sum that this length asks for.
func framedAs(length int, rec []byte) []byte {
	b := binary.LittleEndian.AppendUint32(nil, uint32(length))
	sum := fnv.New64a()
	sum.Write(b)
	sum.Write(rec)
	b = binary.LittleEndian.AppendUint64(b, sum.Sum64())
	return append(b, rec...)
}

func allBytes() []byte {
	all := make([]byte, 256)
	for i := range all {
		all[i] = byte(i)
	}
	return all
}

// records are short ones and ones about each byte of the length, a frame among them.
func records() [][]byte {
	l := [][]byte{{}, []byte("a"), []byte("ab\x00"), {0}, {0, 0, 0, 0}, make([]byte, head), {255}, allBytes(), framed([]byte("in")), framed(nil)}
	for _, n := range []int{11, 12, 13, 127, 128, 255, 256, 257, 65535, 65536, 65537} {
		l = append(l, bytes.Repeat([]byte{'x', 0, 255}, n)[:n])
	}
	return l
}

// inARow are the frames of records, one behind the other.
func inARow(recs [][]byte) []byte {
	var b []byte
	for _, rec := range recs {
		b = append(b, framed(rec)...)
	}
	return b
}

// checkScan holds a scan against the records that it should tell.
func checkScan(t *testing.T, name string, b []byte, want [][]byte) {
	t.Helper()
	recs, at := frame.Scan(b)
	if !slices.EqualFunc(recs, want, bytes.Equal) || at != len(inARow(want)) {
		t.Errorf("%s: %d records up to %d, not %d up to %d", name, len(recs), at, len(want), len(inARow(want)))
	}
}

// P4.1: a frame's bytes, worked out apart from the program.
func TestPutBytes(t *testing.T) {
	for _, c := range []struct {
		rec, head []byte
	}{
		{nil, []byte{0, 0, 0, 0, 245, 19, 206, 157, 127, 118, 37, 77}},
		{[]byte("a"), []byte{1, 0, 0, 0, 127, 221, 219, 167, 174, 13, 13, 216}},
		{[]byte{0}, []byte{1, 0, 0, 0, 236, 126, 220, 167, 174, 108, 13, 216}},
		{[]byte{255}, []byte{1, 0, 0, 0, 97, 220, 220, 167, 174, 163, 13, 216}},
		{[]byte("hello"), []byte{5, 0, 0, 0, 120, 41, 244, 105, 41, 230, 139, 87}},
		{[]byte("ab\x00"), []byte{3, 0, 0, 0, 255, 177, 93, 229, 160, 60, 98, 134}},
		{allBytes(), []byte{0, 1, 0, 0, 74, 139, 176, 129, 191, 158, 63, 14}},
		{bytes.Repeat([]byte{128}, 65536), []byte{0, 0, 1, 0, 204, 48, 251, 64, 216, 201, 103, 101}},
	} {
		want := append(c.head, c.rec...)
		if got := frame.Put(nil, c.rec); !bytes.Equal(got, want) {
			t.Errorf("the frame of %d bytes begins with %v, not %v", len(c.rec), got[:min(len(got), head)], want[:head])
		}
		checkScan(t, "alone", want, [][]byte{c.rec})
	}
}

// P4.1: frames of many lengths, held against the library's sums.
func TestPut(t *testing.T) {
	for _, rec := range records() {
		for _, out := range [][]byte{nil, {}, {0}, {1, 2, 3}, framed([]byte("ahead")), make([]byte, 5, 1000)} {
			want := append(bytes.Clone(out), framed(rec)...)
			if got := frame.Put(out, rec); !bytes.Equal(got, want) {
				t.Errorf("of %d bytes behind %d: %d bytes", len(rec), len(out), len(got))
			}
		}
	}
}

// P4.1: what Put wrote in a row, Scan tells in the same order.
func TestScan(t *testing.T) {
	var b []byte
	var want [][]byte
	checkScan(t, "nil", nil, nil)
	checkScan(t, "no bytes", []byte{}, nil)
	for _, rec := range records() {
		b = frame.Put(b, rec)
		want = append(want, rec)
		checkScan(t, "in a row", b, want)
	}
	slices.Reverse(want)
	checkScan(t, "the other way round", inARow(want), want)
	many := slices.Repeat(want[len(want)-4:], 5000)
	checkScan(t, "many", inARow(many), many)
	empty := make([][]byte, 1000)
	checkScan(t, "empty records", inARow(empty), empty)
}

// P4.1: a record has at most MaxFrame bytes: one more, and there is no frame, whatever its sum.
func TestLongest(t *testing.T) {
	rec := make([]byte, api.MaxFrame+1)
	rec[0], rec[api.MaxFrame-1], rec[api.MaxFrame] = 1, 2, 3
	longest := rec[:api.MaxFrame]
	b := frame.Put([]byte{}, longest)
	if !bytes.Equal(b, framed(longest)) {
		t.Errorf("the longest frame has %d bytes, and begins with %v", len(b), b[:head])
	}
	b = frame.Put(b, []byte("a"))
	checkScan(t, "the longest", b, [][]byte{longest, []byte("a")})
	checkScan(t, "the longest, cut off", b[:head+api.MaxFrame-1], nil)
	row := inARow([][]byte{[]byte("a"), rec, []byte("b")})
	checkScan(t, "one longer", row, [][]byte{[]byte("a")})
}

// P4.1: a length beyond what there is, up to the greatest of four bytes, is no frame's.
func TestLengths(t *testing.T) {
	rec := bytes.Repeat([]byte{7}, 300)
	ahead := [][]byte{[]byte("a"), {}}
	for _, length := range []int{301, 302, 311, 312, 313, 512, 1 << 16, 1<<24 - 1, 1 << 24, 1<<24 + 300, 1<<31 - 1, 1 << 31, 1<<32 - 13, 1<<32 - 12, 1<<32 - 1} {
		checkScan(t, "alone", framedAs(length, rec), nil)
		checkScan(t, "behind others", append(inARow(ahead), framedAs(length, rec)...), ahead)
	}
	// A length below what the sum was made of: the bytes behind are no record's.
	for _, length := range []int{0, 1, 299} {
		checkScan(t, "too short", framedAs(length, rec), nil)
	}
}

// P4.1: other sums than that of the four bytes and the record behind them are no frame's.
func TestSums(t *testing.T) {
	for _, rec := range [][]byte{{}, []byte("a"), []byte("hello"), {0, 0}} {
		length := binary.LittleEndian.AppendUint32(nil, uint32(len(rec)))
		right := binary.LittleEndian.Uint64(framed(rec)[4:])
		alone := fnv.New64a()
		alone.Write(rec)
		turned := fnv.New64a()
		turned.Write(rec)
		turned.Write(length)
		sums := []uint64{0, math.MaxUint64, right + 1, right - 1, ^right, alone.Sum64()}
		if len(rec) > 0 {
			sums = append(sums, turned.Sum64())
		}
		for bit := range 64 {
			sums = append(sums, right^1<<bit)
		}
		for _, sum := range sums {
			b := append(binary.LittleEndian.AppendUint64(bytes.Clone(length), sum), rec...)
			checkScan(t, "a wrong sum", b, nil)
		}
		b := append(binary.BigEndian.AppendUint64(bytes.Clone(length), right), rec...)
		checkScan(t, "a sum the other way round", b, nil)
		b = binary.BigEndian.AppendUint32(nil, uint32(len(rec)))
		if len(rec) > 0 {
			checkScan(t, "a length the other way round", append(b, framed(rec)[4:]...), nil)
		}
	}
}

// short are few records, whose frames have few enough bytes to try each one.
func short() [][]byte {
	return [][]byte{[]byte("hello"), {}, []byte("a"), {0, 0, 0}, allBytes()[200:], {}}
}

// wholly are the records of those whose frames have ended at the place.
func wholly(recs [][]byte, place int) [][]byte {
	for n := range recs {
		if len(inARow(recs[:n+1])) > place {
			return recs[:n]
		}
	}
	return recs
}

// P4.2: cut off anywhere, only what stands there wholly is told; what is cut off lies behind the end, and isn't looked at.
func TestCutOff(t *testing.T) {
	b := inARow(short())
	for n := range len(b) + 1 {
		checkScan(t, "cut off", b[:n], wholly(short(), n))
		checkScan(t, "cut off, memory of its own", bytes.Clone(b[:n:n]), wholly(short(), n))
	}
}

// P4.1: where a byte isn't as it was, the scan ends ahead of that frame, and right ones behind it aren't told.
func TestOneByteDiffers(t *testing.T) {
	b := inARow(short())
	for place := range b {
		for other := range 256 {
			c := bytes.Clone(b)
			c[place] = byte(other)
			if c[place] != b[place] {
				checkScan(t, "one byte differs", c, wholly(short(), place))
			}
		}
	}
}

// P4.1: the frames stand one behind the other from the beginning on: with something between, those behind it aren't told.
func TestBetween(t *testing.T) {
	recs := short()
	for _, between := range [][]byte{{0}, {1}, {255}, {0, 0, 0, 0}, make([]byte, 11), make([]byte, head), framed(nil)[:head-1], framed([]byte("ab"))[:head+1]} {
		for n := range len(recs) + 1 {
			b := append(inARow(recs[:n]), between...)
			b = append(b, inARow(recs[n:])...)
			checkScan(t, "something between", b, recs[:n])
		}
	}
}

// P4.2: what is told of any bytes, framed again, are these bytes up to the place.
func TestFramedAgain(t *testing.T) {
	random := rand.New(rand.NewSource(4))
	b := inARow(short())
	for range 20000 {
		from := random.Intn(len(b))
		c := bytes.Clone(b[from : from+random.Intn(len(b)-from)])
		if random.Intn(2) == 0 {
			c = bytes.Clone(b)
		}
		if len(c) > 0 && random.Intn(2) == 0 {
			c[random.Intn(len(c))] = byte(random.Intn(256))
		}
		recs, at := frame.Scan(c)
		var again []byte
		for _, rec := range recs {
			again = frame.Put(again, rec)
		}
		if at < 0 || at > len(c) || !bytes.Equal(again, c[:at]) {
			t.Fatalf("of %v: %d records up to %d", c, len(recs), at)
		}
	}
}

// P4.3: Put changes nothing that is handed in, with or without room behind out's end.
func TestPutLeavesAll(t *testing.T) {
	for _, rec := range records() {
		for _, room := range []int{0, 1, 4, 11, head, len(rec) + head, len(rec) + 100} {
			full := make([]byte, 4, 4+room)
			copy(full, []byte{9, 255, 128, 3})
			given := append(bytes.Clone(rec), 1, 2, 3)[:len(rec)]
			got := frame.Put(full[:3], given)
			if !bytes.Equal(full[:3], []byte{9, 255, 128}) || !bytes.Equal(given, rec) || !bytes.Equal(given[:len(rec)+3][len(rec):], []byte{1, 2, 3}) {
				t.Fatalf("Put of %d bytes with room for %d changed what was handed in", len(rec), room)
			}
			for i := range got[3:] {
				got[3+i] = ^got[3+i]
			}
			if !bytes.Equal(given, rec) {
				t.Fatalf("the frame of %d bytes shares memory with the record", len(rec))
			}
		}
	}
}

// P4.1, P4.3: a record that lies behind out's end, where Put may write, is framed as it was handed in.
func TestRecordBehindEnd(t *testing.T) {
	for from := range 40 {
		for n := range 40 {
			b := make([]byte, 100)
			for i := range b {
				b[i] = byte(i)
			}
			want := append(bytes.Clone(b[:10]), framed(b[from:from+n])...)
			if got := frame.Put(b[:10], b[from:from+n]); !bytes.Equal(got, want) {
				t.Fatalf("of the %d bytes at %d behind the ten in front: %v", n, from, got)
			}
		}
	}
}

// P4.3: Scan leaves what is handed in; what it tells is memory of its own, and each record of its own.
func TestScanIsNew(t *testing.T) {
	want := slices.Concat(records(), short())
	b := append(inARow(want), 1, 2, 3)
	before := bytes.Clone(b)
	recs, _ := frame.Scan(b)
	if !bytes.Equal(b, before) {
		t.Fatal("Scan changed what was handed in")
	}
	for i := range b {
		b[i] = ^b[i]
	}
	if !slices.EqualFunc(recs, want, bytes.Equal) {
		t.Fatal("what was told changed with the bytes")
	}
	recs, _ = frame.Scan(before)
	kept := bytes.Clone(before)
	for n, rec := range recs {
		for i := range rec {
			rec[i] = ^rec[i]
		}
		_ = append(rec, 77, 77, 77, 77, 77, 77, 77, 77, 77, 77, 77, 77, 77, 77, 77, 77)
		if !slices.EqualFunc(recs[n+1:], want[n+1:], bytes.Equal) {
			t.Fatalf("record %d shares memory with those behind it", n)
		}
	}
	if !bytes.Equal(before, kept) {
		t.Fatal("what was told shares memory with the bytes")
	}
}

// What comes out hangs on what goes in alone: nil is as an empty list.
func TestNilIsEmpty(t *testing.T) {
	for _, out := range [][]byte{nil, {}} {
		for _, rec := range [][]byte{nil, {}} {
			if b := frame.Put(out, rec); !bytes.Equal(b, framed(nil)) {
				t.Errorf("Put(%v, %v) = %v", out, rec, b)
			}
		}
	}
}

// The chapter's examples.
func TestExamples(t *testing.T) {
	b := frame.Put(nil, []byte{})
	if len(b) != 12 || !bytes.Equal(b[:4], []byte{0, 0, 0, 0}) {
		t.Errorf("the empty record's frame: %v", b)
	}
	b = frame.Put(nil, []byte("hello"))
	if recs, at := frame.Scan(b[:len(b)/2]); len(recs) != 0 || at != 0 {
		t.Errorf("Scan of half a frame: %v, %d", recs, at)
	}
}

// P1: none panics and all end: of a record that is too long, and of any bytes, too.
func TestNonePanics(t *testing.T) {
	b := frame.Put(nil, make([]byte, api.MaxFrame+100))
	frame.Scan(b)
	for n := range 60 {
		for _, c := range []byte{0, 1, 127, 128, 255} {
			recs, at := frame.Scan(bytes.Repeat([]byte{c}, n))
			if len(recs) != 0 || at != 0 {
				t.Errorf("Scan of %d times %d: %d records up to %d", n, c, len(recs), at)
			}
		}
	}
}
