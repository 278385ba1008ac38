package entry_test

import (
	"bytes"
	"encoding/binary"
	"fmt"
	"math"
	"math/rand"
	"strconv"
	"strings"
	"testing"

	"lockgate/api"
	"lockgate/entry"
	"lockgate/ver"
)

// row is a thing's bytes, written by the library and apart from the program.
type row []byte

func (r row) number(n int) row      { return binary.AppendVarint(r, int64(n)) }
func (r row) text(s string) row     { return append(r.number(len(s)), s...) }
func (r row) ver(v api.Ver) row     { return r.number(int(real(v))).number(int(imag(v))) }
func (r row) raw(b ...byte) row     { return append(r, b...) }
func (r row) clone() row            { return bytes.Clone(r) }
func (r row) behind(out []byte) row { return append(bytes.Clone(out), r...) }

func (r row) truth(is bool) row {
	if is {
		return append(r, 1)
	}
	return append(r, 0)
}

func opRow(o api.Op) row {
	return row(nil).number(o.Kind).text(o.Key).text(o.Val).text(o.Old).truth(o.HasOld)
}

func entryRow(e api.Entry) row {
	r := row(nil).ver(e.Ver).number(e.Kind).text(e.Key).text(e.Val).truth(e.Write).truth(e.Del)
	return r.number(e.Sess).number(e.Num).number(e.Code).text(e.Res).truth(e.HasRes)
}

// someInts, someTexts and someVers are ordinary ones, and those at their bounds.
func someInts() []int {
	return []int{0, 1, -1, 2, 5, 63, 64, -64, -65, 8191, 8192, 1 << 40, 1<<62 - 1, 1 << 62, math.MaxInt, math.MinInt}
}

func someTexts() []string {
	all := make([]byte, 256)
	for i := range all {
		all[i] = byte(i)
	}
	return []string{
		"", "a", "ab", "\x00", "\x80\xff", "é世", string(all), strings.Repeat("x", 63), strings.Repeat("x", 64),
		strings.Repeat("\x00", api.MaxText-1), strings.Repeat("z", api.MaxText),
	}
}

func someVers() []api.Ver {
	var l []api.Ver
	counts := []int{0, 1, 63, 64, 1 << 32, api.MaxCount - 1, api.MaxCount}
	for _, epoch := range counts {
		for _, num := range counts {
			l = append(l, ver.Make(epoch, num))
		}
	}
	return l
}

// fullOp and fullEntry have something else in each field.
func fullOp() api.Op {
	return api.Op{Kind: api.Swap, Key: "key", Val: "vv", Old: "o", HasOld: true}
}

func fullEntry() api.Entry {
	return api.Entry{
		Ver: ver.Make(2, 300), Kind: api.Delete, Key: "key", Val: "vv", Write: true, Del: true,
		Sess: 70, Num: -5, Code: api.Gone, Res: "r", HasRes: true,
	}
}

// pick is one of a list.
func pick[T any](random *rand.Rand, l []T) T { return l[random.Intn(len(l))] }

// ops are ones with a single field that says something, ones with a single field that doesn't, and some by chance.
func ops() []api.Op {
	l := []api.Op{{}, fullOp()}
	for _, o := range []api.Op{{}, fullOp()} {
		for _, n := range someInts() {
			p := o
			p.Kind = n
			l = append(l, p)
		}
		for _, s := range someTexts() {
			p, q, r := o, o, o
			p.Key, q.Val, r.Old = s, s, s
			l = append(l, p, q, r)
		}
		o.HasOld = !o.HasOld
		l = append(l, o)
	}
	random := rand.New(rand.NewSource(5))
	texts := someTexts()[:9]
	for range 200 {
		l = append(l, api.Op{Kind: pick(random, someInts()), Key: pick(random, texts), Val: pick(random, texts), Old: pick(random, texts), HasOld: random.Intn(2) == 1})
	}
	return l
}

// entries are as ops.
func entries() []api.Entry {
	l := []api.Entry{{}, fullEntry()}
	for _, e := range []api.Entry{{}, fullEntry()} {
		for _, v := range someVers() {
			f := e
			f.Ver = v
			l = append(l, f)
		}
		for _, n := range someInts() {
			f, g, h, i := e, e, e, e
			f.Kind, g.Sess, h.Num, i.Code = n, n, n, n
			l = append(l, f, g, h, i)
		}
		for _, s := range someTexts() {
			f, g, h := e, e, e
			f.Key, g.Val, h.Res = s, s, s
			l = append(l, f, g, h)
		}
		f, g, h := e, e, e
		f.Write, g.Del, h.HasRes = !e.Write, !e.Del, !e.HasRes
		l = append(l, f, g, h)
	}
	random := rand.New(rand.NewSource(6))
	texts := someTexts()[:9]
	for range 200 {
		l = append(l, api.Entry{
			Ver: pick(random, someVers()), Kind: pick(random, someInts()), Key: pick(random, texts), Val: pick(random, texts),
			Write: random.Intn(2) == 1, Del: random.Intn(2) == 1, Sess: pick(random, someInts()), Num: pick(random, someInts()),
			Code: pick(random, someInts()), Res: pick(random, texts), HasRes: random.Intn(2) == 1,
		})
	}
	return l
}

// item is an operation or an entry, its bytes, worked out apart, and its two calls with the type taken away.
type item struct {
	name  string
	thing any
	row   row
	write func(out []byte) []byte
	read  func(b []byte, at int) (any, int, bool)
}

func readOp(b []byte, at int) (any, int, bool)    { o, to, ok := entry.GetOp(b, at); return o, to, ok }
func readEntry(b []byte, at int) (any, int, bool) { e, to, ok := entry.Get(b, at); return e, to, ok }

func opItem(o api.Op) item {
	return item{"an operation", o, opRow(o), func(out []byte) []byte { return entry.PutOp(out, o) }, readOp}
}

func entryItem(e api.Entry) item {
	return item{"an entry", e, entryRow(e), func(out []byte) []byte { return entry.Put(out, e) }, readEntry}
}

func items() []item {
	var l []item
	for _, o := range ops() {
		l = append(l, opItem(o))
	}
	for _, e := range entries() {
		l = append(l, entryItem(e))
	}
	return l
}

// few are short ones of both kinds, whose bytes can each be tried.
func few() []item {
	return []item{opItem(api.Op{}), opItem(fullOp()), entryItem(api.Entry{}), entryItem(fullEntry())}
}

// written is what the program writes of a thing that was read.
func written(thing any) []byte {
	switch x := thing.(type) {
	case api.Op:
		return entry.PutOp(nil, x)
	case api.Entry:
		return entry.Put(nil, x)
	}
	return nil
}

// checkNothing asks that nothing stands there, and that beside the false all is zero.
func checkNothing(t *testing.T, x item, name string, b []byte, at int) {
	t.Helper()
	thing, to, ok := x.read(b, at)
	if ok || to != 0 || (thing != api.Op{} && thing != api.Entry{}) {
		t.Fatalf("%s, %s: %v at %d tells %s, %d, %v", x.name, name, small(b), at, told(thing), to, ok)
	}
}

// small and told keep short, and readable, what a failing test tells.
func small(b []byte) []byte { return b[:min(len(b), 24)] }

func told(thing any) string {
	s := strconv.QuoteToASCII(fmt.Sprint(thing))
	return s[:min(len(s), 100)]
}

// P5.1: bytes worked out by hand, each field with something else in it.
func TestBytes(t *testing.T) {
	want := []byte{8, 6, 'k', 'e', 'y', 4, 'v', 'v', 2, 'o', 1}
	if got := entry.PutOp(nil, fullOp()); !bytes.Equal(got, want) {
		t.Errorf("the full operation: %v", got)
	}
	want = []byte{4, 216, 4, 6, 6, 'k', 'e', 'y', 4, 'v', 'v', 1, 1, 140, 1, 9, 12, 2, 'r', 1}
	if got := entry.Put(nil, fullEntry()); !bytes.Equal(got, want) {
		t.Errorf("the full entry: %v", got)
	}
	if got := entry.PutOp(nil, api.Op{}); !bytes.Equal(got, make([]byte, 5)) {
		t.Errorf("the empty operation: %v", got)
	}
}

// P5.1: a single field that says something, and the one place among noughts where it stands.
func TestFieldPlaces(t *testing.T) {
	for _, c := range []struct {
		e     api.Entry
		place int
		byte  byte
	}{
		{api.Entry{Ver: ver.Make(1, 0)}, 0, 2},
		{api.Entry{Ver: ver.Make(0, 1)}, 1, 2},
		{api.Entry{Kind: -1}, 2, 1},
		{api.Entry{Write: true}, 5, 1},
		{api.Entry{Del: true}, 6, 1},
		{api.Entry{Sess: 2}, 7, 4},
		{api.Entry{Num: 3}, 8, 6},
		{api.Entry{Code: 4}, 9, 8},
		{api.Entry{HasRes: true}, 11, 1},
	} {
		want := make([]byte, 12)
		want[c.place] = c.byte
		if got := entry.Put(nil, c.e); !bytes.Equal(got, want) {
			t.Errorf("Put(nil, %v) = %v", c.e, got)
		}
		if e, to, ok := entry.Get(want, 0); e != c.e || to != 12 || !ok {
			t.Errorf("Get(%v, 0) = %s, %d, %v", want, told(e), to, ok)
		}
	}
	for place, e := range map[int]api.Entry{3: {Key: "x"}, 4: {Val: "x"}, 10: {Res: "x"}} {
		want := append(append(make([]byte, place), 2, 'x'), make([]byte, 11-place)...)
		if got := entry.Put(nil, e); !bytes.Equal(got, want) {
			t.Errorf("Put(nil, %v) = %v", e, got)
		}
	}
	for place, o := range map[int]api.Op{1: {Key: "x"}, 2: {Val: "x"}, 3: {Old: "x"}} {
		want := append(append(make([]byte, place), 2, 'x'), make([]byte, 4-place)...)
		if got := entry.PutOp(nil, o); !bytes.Equal(got, want) {
			t.Errorf("PutOp(nil, %v) = %v", o, got)
		}
	}
}

// P5.1: out stands ahead, and the bytes are those that were worked out apart.
func TestPut(t *testing.T) {
	for _, x := range items() {
		for _, out := range [][]byte{nil, {}, {0}, {128}, {255, 1, 7, 128}} {
			if got := x.write(bytes.Clone(out)); !bytes.Equal(got, x.row.behind(out)) {
				t.Fatalf("%s behind %v: %v", x.name, out, small(got))
			}
		}
	}
}

// P5.1, P5.2: what was written is read as it was, wherever it stands and whatever stands around it.
func TestReadAsWritten(t *testing.T) {
	for _, x := range items() {
		for _, ahead := range [][]byte{{}, {0}, {128}, {255, 255, 255}} {
			for _, behind := range [][]byte{{}, {0}, {1}, {128, 0}, {255, 255, 255}} {
				b := append(x.write(bytes.Clone(ahead)), behind...)
				thing, to, ok := x.read(b, len(ahead))
				if thing != x.thing || to != len(b)-len(behind) || !ok {
					t.Fatalf("%s of %v at %d: place %d, %v", x.name, small(b), len(ahead), to, ok)
				}
			}
		}
	}
}

// P5.1, P5.2: one behind the other, each is read where the one ahead ended.
func TestInARow(t *testing.T) {
	var b []byte
	for _, x := range items() {
		b = x.write(b)
	}
	at := 0
	for _, x := range items() {
		thing, to, ok := x.read(b, at)
		if thing != x.thing || to != at+len(x.row) || !ok {
			t.Fatalf("%s at %d: place %d, %v", x.name, at, to, ok)
		}
		at = to
	}
	if at != len(b) {
		t.Errorf("the row ends at %d, not %d", at, len(b))
	}
}

// P5.1: what is cut short stands nowhere, though what is cut off lies in memory behind the end.
func TestCutShort(t *testing.T) {
	for _, x := range items() {
		for n := range x.row {
			if n > 60 && n < len(x.row)-20 {
				continue
			}
			checkNothing(t, x, "cut short", x.row[:n], 0)
		}
	}
	for _, x := range few() {
		for n := range x.row {
			checkNothing(t, x, "cut short in memory of its own", bytes.Clone(x.row[:n:n]), 0)
			checkNothing(t, x, "cut short behind others", append([]byte{1, 2, 3}, x.row[:n]...), 3)
		}
	}
}

// P5.1: nothing stands at a place behind the end; nor, though nothing is promised of it, at one below 0.
func TestPlacesOutside(t *testing.T) {
	for _, x := range few() {
		b := append(x.row.clone(), x.row...)
		for _, at := range []int{len(b), len(b) + 1, len(b) + 1000, math.MaxInt - 1, math.MaxInt, -1, -len(x.row), math.MinInt} {
			checkNothing(t, x, "outside", b, at)
		}
		checkNothing(t, x, "no bytes", nil, 0)
		checkNothing(t, x, "no bytes", []byte{}, 0)
	}
}

// wrongNumbers are bytes that are no number, wrongTruths no truth, wrongTexts no text, wrongCounts no part of a version.
func wrongNumbers() [][]byte {
	return [][]byte{{128, 0}, {129, 128, 0}, append(bytes.Repeat([]byte{128}, 9), 2), bytes.Repeat([]byte{255}, 11)}
}

func wrongTruths() [][]byte { return [][]byte{{2}, {3}, {127}, {128, 0}, {129, 0}, {255}} }

func wrongTexts() [][]byte {
	l := wrongNumbers()
	for _, n := range []int{-1, -64, math.MinInt, api.MaxText + 1, 1 << 32, math.MaxInt} {
		l = append(l, append(row(nil).number(n), make([]byte, api.MaxText+20)...))
	}
	return l
}

func wrongCounts() [][]byte {
	l := wrongNumbers()
	for _, n := range []int{-1, -2, math.MinInt, api.MaxCount + 1, 1<<53 + 1, math.MaxInt} {
		l = append(l, row(nil).number(n))
	}
	return l
}

// P5.1: an operation with one field that is none, all others right.
func TestWrongOps(t *testing.T) {
	x := opItem(fullOp())
	for _, w := range wrongNumbers() {
		checkNothing(t, x, "Kind", row(nil).raw(w...).text("k").text("v").text("o").truth(true), 0)
	}
	for _, w := range wrongTexts() {
		checkNothing(t, x, "Key", row(nil).number(2).raw(w...).text("v").text("o").truth(true), 0)
		checkNothing(t, x, "Val", row(nil).number(2).text("k").raw(w...).text("o").truth(true), 0)
		checkNothing(t, x, "Old", row(nil).number(2).text("k").text("v").raw(w...).truth(true), 0)
	}
	for _, w := range wrongTruths() {
		checkNothing(t, x, "HasOld", row(nil).number(2).text("k").text("v").text("o").raw(w...), 0)
	}
}

// P5.1: an entry with one field that is none, all others right.
func TestWrongEntries(t *testing.T) {
	// Each of the twelve parts as bytes of its own: the version's two, and then the fields.
	parts := [][]byte{{2}, {4}, {6}, {2, 'k'}, {2, 'v'}, {1}, {0}, {14}, {16}, {2}, {2, 'r'}, {1}}
	wrong := [][][]byte{
		wrongCounts(), wrongCounts(), wrongNumbers(), wrongTexts(), wrongTexts(), wrongTruths(), wrongTruths(),
		wrongNumbers(), wrongNumbers(), wrongNumbers(), wrongTexts(), wrongTruths(),
	}
	if _, to, ok := entry.Get(bytes.Join(parts, nil), 0); to != 15 || !ok {
		t.Fatalf("the right parts: %d, %v", to, ok)
	}
	for i := range parts {
		for _, w := range wrong[i] {
			all := bytes.Join([][]byte{bytes.Join(parts[:i], nil), w, bytes.Join(parts[i+1:], nil)}, nil)
			checkNothing(t, entryItem(fullEntry()), "part "+string(rune('a'+i)), all, 0)
		}
	}
}

// checkOneWay asks that what is read of the bytes, written again, is these bytes.
func checkOneWay(t *testing.T, x item, b []byte) {
	t.Helper()
	thing, to, ok := x.read(b, 0)
	if !ok {
		checkNothing(t, x, "not there", b, 0)
		return
	}
	if to < 0 || to > len(b) || !bytes.Equal(written(thing), b[:to]) {
		t.Fatalf("%s: %v is read as %s, up to %d, which is written otherwise", x.name, small(b), told(thing), to)
	}
}

// P5.2: where one byte is any other one, what is read was written in the one way there is.
func TestOneByteDiffers(t *testing.T) {
	for _, x := range few() {
		for place := range x.row {
			for other := range 256 {
				b := append(x.row.clone(), 0, 0, 0, 0)
				b[place] = byte(other)
				checkOneWay(t, x, b)
			}
		}
	}
}

// P5.2: bytes by chance, of few kinds, so that many of them are something.
func TestOneWay(t *testing.T) {
	random := rand.New(rand.NewSource(7))
	bits := []byte{0, 0, 0, 0, 1, 1, 2, 3, 4, 6, 127, 128, 129, 255}
	for range 200000 {
		b := make([]byte, random.Intn(24))
		for i := range b {
			b[i] = pick(random, bits)
		}
		checkOneWay(t, opItem(api.Op{}), b)
		checkOneWay(t, entryItem(api.Entry{}), b)
	}
}

// P5.2: of two of a kind that aren't the same, the bytes aren't the same either.
func TestNoTwoAlike(t *testing.T) {
	of := map[string]any{}
	for _, x := range items() {
		key := x.name + string(x.write(nil))
		if other, ok := of[key]; ok && other != x.thing {
			t.Fatalf("%s: two have the bytes %v", x.name, small(x.row))
		}
		of[key] = x.thing
	}
}

// P5.1: an entry's size: the bytes, not the letters, of its key and its value, and one more, whatever else it has.
func TestSize(t *testing.T) {
	if got := entry.Size(api.Entry{}); got != 1 {
		t.Errorf("the empty entry's size: %d", got)
	}
	if got := entry.Size(fullEntry()); got != 6 {
		t.Errorf("the full entry's size: %d", got)
	}
	for _, key := range someTexts() {
		for _, val := range someTexts() {
			e := fullEntry()
			e.Key, e.Val = key, val
			bare := api.Entry{Key: key, Val: val, Res: "something else", Sess: 100}
			want := len([]byte(key)) + len([]byte(val)) + 1
			if got, other := entry.Size(e), entry.Size(bare); got != want || other != want {
				t.Errorf("of %d and %d bytes: %d and %d, not %d", len(key), len(val), got, other, want)
			}
		}
	}
	if got := entry.Size(api.Entry{Key: "é", Val: "世"}); got != 6 {
		t.Errorf("the size of two letters of five bytes: %d", got)
	}
	if got := entry.Size(api.Entry{Key: strings.Repeat("k", api.MaxText), Val: strings.Repeat("v", api.MaxText), Del: true}); got != 2*api.MaxText+1 {
		t.Errorf("the greatest size: %d", got)
	}
}

// P5.3: what is written changes nothing of out, with or without room behind its end.
func TestOutStays(t *testing.T) {
	for _, x := range items() {
		for _, room := range []int{0, 1, 5, len(x.row) - 1, len(x.row), len(x.row) + 100} {
			full := make([]byte, 4, 4+room)
			copy(full, []byte{9, 255, 128, 3})
			got := x.write(full[:3])
			if !bytes.Equal(full[:3], []byte{9, 255, 128}) || !bytes.Equal(got, x.row.behind(full[:3])) {
				t.Fatalf("%s changed what was handed in: %v", x.name, full[:3])
			}
		}
	}
}

// P5.3: what is read from stays, and what is read is memory of its own.
func TestReadIsNew(t *testing.T) {
	for _, x := range items() {
		b := x.row.behind([]byte{7}).raw(7)
		before := bytes.Clone(b)
		thing, _, ok := x.read(b, 1)
		if !ok || !bytes.Equal(b, before) {
			t.Fatalf("reading %s changed what was handed in: %v", x.name, small(b))
		}
		for i := range b {
			b[i] = ^b[i]
		}
		if thing != x.thing {
			t.Fatalf("%s that was read changed with the bytes", x.name)
		}
	}
}

// The chapter's example.
func TestExample(t *testing.T) {
	if b := entry.Put(nil, api.Entry{}); !bytes.Equal(b, []byte{0, 0, 0, 0, 0, 0, 0, 0, 0, 0, 0, 0}) {
		t.Errorf("Put(nil, Entry{}) = %v", b)
	}
}

// P1: none panics and all end: of what is no version, and of texts that are too long, too.
func TestNonePanics(t *testing.T) {
	long := strings.Repeat("x", 2*api.MaxText)
	entry.PutOp(nil, api.Op{Key: long, Val: long, Old: long})
	for _, part := range []float64{math.NaN(), math.Inf(1), math.Inf(-1), -1, 0.5, math.MaxFloat64} {
		e := api.Entry{Ver: api.Ver(complex(part, -part)), Key: long, Val: long, Res: long}
		entry.Put(nil, e)
		entry.Size(e)
	}
	for n := range 60 {
		for _, c := range []byte{0, 1, 2, 127, 128, 255} {
			checkOneWay(t, opItem(api.Op{}), bytes.Repeat([]byte{c}, n))
			checkOneWay(t, entryItem(api.Entry{}), bytes.Repeat([]byte{c}, n))
		}
	}
}
