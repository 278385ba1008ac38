package msg_test

import (
	"bytes"
	"math"
	"math/rand"
	"reflect"
	"strconv"
	"strings"
	"testing"

	"lockgate/api"
	"lockgate/msg"
	"lockgate/ver"
)

// P6.1: bytes worked out by hand, each field with something else in it.
func TestBytes(t *testing.T) {
	image := []byte{
		2, 4, 6, 8, 10, // Floor, Last, Gen
		4, 4, 6, 4, 2, 'a', 2, 'b', 1, 0, 12, 14, 0, 0, 0, 0, 0, 0, 0, 0, 0, 0, 0, 0, 12, 2, 'r', 1, // Log
		4, 16, 18, 6, 8, 8, 4, 2, 's', 1, 20, 0, 0, 0, 0, 0, 0, 0, // Seen
	}
	if got := msg.PutImage(nil, fullImage()); !bytes.Equal(got, image) {
		t.Errorf("the full image: %v", got)
	}
	views := []byte{6, 2, 4, 6, 2, 4, 4, 2, 6, 14, 4, 0, 0, 6, 0, 6, 0, 0, 0, 2, 8, 10}
	if got := msg.PutViews(nil, fullViews()); !bytes.Equal(got, views) {
		t.Errorf("the full views: %v", got)
	}
	all := bytes.Join([][]byte{
		{22, 4, 200, 1, 6, 8, 10, 12, 14, 16, 18, 19, 22}, // Kind to Code
		{1, 1, 6, 'k', 'e', 'y', 4, 'v', 'v', 24, 26, 28, 30},
		{8, 2, 'o', 2, 'p', 2, 'q', 1},                  // Op
		{2, 32, 34, 6, 2, 'x', 0, 1, 1, 0, 36, 0, 0, 0}, // Entries
		{4, 38, 40, 42, 44}, views, image,               // Chain, Views, Image
	}, nil)
	if got := msg.Put(fullMsg()); !bytes.Equal(got, all) {
		t.Errorf("the full message: %v, not %v", got, all)
	}
	if m, ok := msg.Get(all); !ok || !reflect.DeepEqual(m, fullMsg()) {
		t.Errorf("the full message is read as %s, %v", told(m), ok)
	}
}

// P6.1: a single field that says something, and the one place among the empty message's noughts where it stands.
func TestFieldPlaces(t *testing.T) {
	for _, c := range []struct {
		place int
		m     api.Msg
	}{
		{0, api.Msg{Kind: 3}}, {1, api.Msg{From: 3}}, {2, api.Msg{To: 3}}, {3, api.Msg{Boot: 3}}, {4, api.Msg{SBoot: 3}},
		{5, api.Msg{Shard: 3}}, {6, api.Msg{Epoch: 3}}, {7, api.Msg{Gen: 3}}, {8, api.Msg{Sess: 3}}, {9, api.Msg{Num: 3}},
		{10, api.Msg{A: 3}}, {11, api.Msg{Code: 3}}, {16, api.Msg{Ver: ver.Make(3, 0)}}, {17, api.Msg{Ver: ver.Make(0, 3)}},
		{18, api.Msg{Floor: ver.Make(3, 0)}}, {19, api.Msg{Floor: ver.Make(0, 3)}}, {20, api.Msg{Op: api.Op{Kind: 3}}},
		{28, api.Msg{Image: api.Image{Floor: ver.Make(3, 0)}}}, {29, api.Msg{Image: api.Image{Floor: ver.Make(0, 3)}}},
		{30, api.Msg{Image: api.Image{Last: ver.Make(3, 0)}}}, {31, api.Msg{Image: api.Image{Last: ver.Make(0, 3)}}},
		{32, api.Msg{Image: api.Image{Gen: 3}}},
	} {
		checkPlace(t, c.m, c.place, 6)
	}
	checkPlace(t, api.Msg{Has: true}, 12, 1)
	checkPlace(t, api.Msg{Fresh: true}, 13, 1)
	checkPlace(t, api.Msg{Key: "x"}, 14, 2, 'x')
	checkPlace(t, api.Msg{Val: "x"}, 15, 2, 'x')
	checkPlace(t, api.Msg{Op: api.Op{HasOld: true}}, 24, 1)
	checkPlace(t, api.Msg{Entries: []api.Entry{{Num: 1}}}, 25, 2, 0, 0, 0, 0, 0, 0, 0, 0, 2, 0, 0, 0)
	checkPlace(t, api.Msg{Chain: []api.Member{{Node: 1}}}, 26, 2, 2, 0)
	checkPlace(t, api.Msg{Views: []api.View{{Gen: 1}}}, 27, 2, 0, 0, 2, 0, 0)
	checkPlace(t, api.Msg{Image: api.Image{Log: []api.Entry{{Num: 1}}}}, 33, 2, 0, 0, 0, 0, 0, 0, 0, 0, 2, 0, 0, 0)
	checkPlace(t, api.Msg{Image: api.Image{Seen: []api.Seen{{Num: 1}}}}, 34, 2, 0, 2, 0, 0, 0, 0, 0, 0)
}

// checkPlace asks that m's bytes are the empty message's 35 noughts, but for the one at the place, where others stand.
func checkPlace(t *testing.T, m api.Msg, place int, others ...byte) {
	t.Helper()
	want := append(append(make([]byte, place), others...), make([]byte, 34-place)...)
	if got := msg.Put(m); !bytes.Equal(got, want) {
		t.Errorf("Put(%s) = %v, not %v", told(m), got, want)
	}
	if n, ok := msg.Get(want); !ok || !reflect.DeepEqual(n, m) {
		t.Errorf("Get(%v) = %s, %v", want, told(n), ok)
	}
}

// P6.1, P6.2: messages' bytes are those that were worked out apart, and are read as they were.
func TestMessages(t *testing.T) {
	for _, m := range msgs() {
		want := msgRow(m)
		if got := msg.Put(m); !bytes.Equal(got, want) {
			t.Fatalf("Put(%s) = %v, not %v", told(m), small(got), small(want))
		}
		if n, ok := msg.Get(want); !ok || !reflect.DeepEqual(n, m) {
			t.Fatalf("%s is read as %s, %v", told(m), told(n), ok)
		}
	}
}

// P6.1: out stands ahead, and the bytes are those that were worked out apart.
func TestPutBehind(t *testing.T) {
	for _, x := range items() {
		for _, out := range [][]byte{nil, {}, {0}, {128}, {255, 1, 7, 128}} {
			if got := x.write(bytes.Clone(out)); !bytes.Equal(got, x.row.behind(out)) {
				t.Fatalf("%s behind %v: %v", x.name, out, small(got))
			}
		}
	}
}

// P6.1, P6.2: what was written is read as it was, wherever it stands and whatever stands around it.
func TestReadAsWritten(t *testing.T) {
	for _, x := range items() {
		for _, ahead := range [][]byte{{}, {0}, {255, 255, 255}} {
			for _, behind := range [][]byte{{}, {0}, {128, 0}, {255, 255, 255}} {
				b := append(x.write(ahead), behind...)
				thing, to, ok := x.read(b, len(ahead))
				if !reflect.DeepEqual(thing, x.thing) || to != len(b)-len(behind) || !ok {
					t.Fatalf("%s of %v at %d: place %d, %v", x.name, small(b), len(ahead), to, ok)
				}
			}
		}
	}
}

// P6.1, P6.2: one behind the other, each is read where the one ahead ended.
func TestInARow(t *testing.T) {
	var b []byte
	for range 3 {
		for _, x := range few() {
			b = x.write(b)
		}
	}
	at := 0
	for range 3 {
		for _, x := range few() {
			thing, to, ok := x.read(b, at)
			if !reflect.DeepEqual(thing, x.thing) || to != at+len(x.row) || !ok {
				t.Fatalf("%s at %d: place %d, %v", x.name, at, to, ok)
			}
			at = to
		}
	}
	if at != len(b) {
		t.Errorf("the row ends at %d, not %d", at, len(b))
	}
}

// P6.1: nil and empty lists are one.
func TestEmptyLists(t *testing.T) {
	empty := api.Msg{Entries: []api.Entry{}, Chain: []api.Member{}, Views: []api.View{}, Image: api.Image{Log: []api.Entry{}, Seen: []api.Seen{}}}
	if got := msg.Put(empty); !bytes.Equal(got, make([]byte, 35)) {
		t.Errorf("empty lists: %v", got)
	}
	if got := msg.PutImage(nil, empty.Image); !bytes.Equal(got, make([]byte, 7)) {
		t.Errorf("an image's empty lists: %v", got)
	}
	for _, l := range [][]api.View{nil, {}} {
		if got := msg.PutViews(nil, l); !bytes.Equal(got, []byte{0}) {
			t.Errorf("no views: %v", got)
		}
	}
	if got := msg.PutViews(nil, []api.View{{Chain: []api.Member{}}}); !bytes.Equal(got, []byte{2, 0, 0, 0, 0, 0}) {
		t.Errorf("an empty chain: %v", got)
	}
	if l, to, ok := msg.GetViews([]byte{9, 0, 9}, 1); len(l) != 0 || to != 2 || !ok {
		t.Errorf("no views are read as %v, %d, %v", l, to, ok)
	}
}

// P6.1: a message that is cut short, or has bytes behind, is none.
func TestNotTheWholeMessage(t *testing.T) {
	for _, m := range msgs() {
		b := msgRow(m)
		for _, n := range cuts(min(len(b), 3000)) {
			checkNoMsg(t, "cut short", b[:n])
		}
		checkNoMsg(t, "its last byte cut off", b[:len(b)-1])
		for _, behind := range [][]byte{{0}, {1}, {128}, {255, 255}, make([]byte, 35)} {
			checkNoMsg(t, "with bytes behind", append(b.clone(), behind...))
		}
	}
	for n := range msgRow(fullMsg()) {
		checkNoMsg(t, "cut short in memory of its own", bytes.Clone(msgRow(fullMsg())[:n]))
		checkNoMsg(t, "its beginning cut off", msgRow(fullMsg())[n+1:])
	}
	checkNoMsg(t, "two in a row", append(msgRow(fullMsg()), msgRow(fullMsg())...))
	checkNoMsg(t, "no bytes", nil)
	checkNoMsg(t, "no bytes", []byte{})
}

// P6.1: what is cut short stands nowhere, though what is cut off lies in memory behind the end.
func TestCutShort(t *testing.T) {
	for _, x := range items() {
		for _, n := range cuts(len(x.row)) {
			checkNothing(t, x, "cut short", x.row[:n], 0)
		}
	}
	for _, x := range few() {
		for n := range x.row {
			checkNothing(t, x, "cut short in memory of its own", bytes.Clone(x.row[:n:n]), 0)
			checkNothing(t, x, "cut short behind others", append([]byte{1, 2, 3}, x.row[:n]...), 3)
		}
	}
}

// P6.1: nothing stands at a place behind the end; nor, though nothing is promised of it, at one below 0.
func TestPlacesOutside(t *testing.T) {
	for _, x := range few() {
		b := append(x.row.clone(), x.row...)
		for _, at := range []int{len(b), len(b) + 1, len(b) + 1000, math.MaxInt - 1, math.MaxInt, -1, -len(x.row), math.MinInt} {
			checkNothing(t, x, "outside", b, at)
		}
		checkNothing(t, x, "no bytes", nil, 0)
		checkNothing(t, x, "no bytes", []byte{}, 0)
	}
}

// wrongNumbers are bytes that are no number, and so on; each has as many bytes behind as it may ask for.
func wrongNumbers() [][]byte {
	return [][]byte{{128, 0}, {129, 128, 0}, append(bytes.Repeat([]byte{128}, 9), 2), bytes.Repeat([]byte{255}, 11)}
}

func wrongTruths() [][]byte { return [][]byte{{2}, {3}, {127}, {128, 0}, {129, 0}, {255}} }

func wrongTexts() [][]byte {
	l := wrongNumbers()
	for _, n := range []int{-1, math.MinInt, api.MaxText + 1, math.MaxInt} {
		l = append(l, append(row(nil).number(n), make([]byte, api.MaxText+20)...))
	}
	return l
}

func wrongVers() [][]byte {
	var l [][]byte
	for _, w := range wrongNumbers() {
		l = append(l, row(nil).raw(w...).number(1), row(nil).number(1).raw(w...))
	}
	for _, n := range []int{-1, math.MinInt, api.MaxCount + 1, 1<<53 + 1, math.MaxInt} {
		l = append(l, row(nil).numbers(n, 1), row(nil).numbers(1, n))
	}
	return l
}

// wrongCounts are how many a list may not have; of those that are too many by one the items stand there, and all are right.
func wrongCounts(item []byte) [][]byte {
	l := wrongNumbers()
	for _, n := range []int{-1, -2, math.MinInt, 1 << 32, math.MaxInt} {
		l = append(l, append(row(nil).number(n), bytes.Repeat(item, 3)...))
	}
	for _, n := range []int{api.MaxList + 1, api.MaxList + 2} {
		l = append(l, append(row(nil).number(n), bytes.Repeat(item, n)...))
	}
	return append(l, row(nil).number(api.MaxList), row(nil).number(2).raw(item...))
}

func wrongMembers() [][]byte {
	var l [][]byte
	for _, w := range wrongNumbers() {
		l = append(l, row(nil).raw(w...).number(1), row(nil).number(1).raw(w...))
	}
	return l
}

func wrongOps() [][]byte {
	l := [][]byte{row(nil).number(1).text("k").text("v").text("o").raw(2)}
	for _, w := range wrongNumbers() {
		l = append(l, row(nil).raw(w...).text("k").text("v").text("o").truth(true))
	}
	return l
}

func wrongEntries() [][]byte {
	var l [][]byte
	for _, w := range wrongVers() {
		l = append(l, append(w, make([]byte, 10)...))
	}
	return append(l, row(nil).raw(make([]byte, 5)...).raw(2).raw(make([]byte, 6)...))
}

// wrongIn are parts in a row, each of them wrong in each of its ways, all others right.
func wrongIn(parts [][]byte, wrong [][][]byte) [][]byte {
	var l [][]byte
	for i := range parts {
		for _, w := range wrong[i] {
			l = append(l, bytes.Join([][]byte{bytes.Join(parts[:i], nil), w, bytes.Join(parts[i+1:], nil)}, nil))
		}
	}
	return l
}

// wrongLists are lists of a wrong count, and lists of which one item is wrong, its neighbours right.
func wrongLists(item []byte, wrong [][]byte) [][]byte {
	l := wrongCounts(item)
	for _, w := range wrong {
		for i := range 3 {
			items := [][]byte{item, item, item}
			items[i] = w
			l = append(l, append(row(nil).number(3), bytes.Join(items, nil)...))
		}
	}
	return l
}

func wrongViews() [][]byte {
	parts := [][]byte{{2}, {4}, {6}, {2}, {4, 2, 4, 6, 8}}
	chain := wrongLists([]byte{2, 4}, wrongMembers())
	return wrongIn(parts, [][][]byte{wrongNumbers(), wrongNumbers(), wrongNumbers(), wrongNumbers(), chain})
}

func wrongSeens() [][]byte {
	parts := [][]byte{{2}, {4}, {6, 8}, {10}, {12}, {2, 'r'}, {1}}
	return wrongIn(parts, [][][]byte{wrongNumbers(), wrongNumbers(), wrongVers(), wrongNumbers(), wrongNumbers(), wrongTexts(), wrongTruths()})
}

func wrongImages() [][]byte {
	entry, seen := entryRow(someEntry(1)), seenRow(someSeen(1))
	parts := [][]byte{{2, 4}, {6, 8}, {10}, entry.behind([]byte{2}), seen.behind([]byte{2})}
	log, calls := wrongLists(entry, wrongEntries()), wrongLists(seen, wrongSeens())
	return wrongIn(parts, [][][]byte{wrongVers(), wrongVers(), wrongNumbers(), log, calls})
}

// P6.1: an image with one thing in it that is none, all others right.
func TestWrongImages(t *testing.T) {
	for _, b := range wrongImages() {
		checkNothing(t, imageItem(fullImage()), "wrong", b, 0)
		checkNothing(t, imageItem(fullImage()), "wrong behind another", append([]byte{0}, b...), 1)
	}
}

// P6.1: views with one thing in them that is none, all others right.
func TestWrongViews(t *testing.T) {
	for _, b := range wrongLists(viewRow(someView(2)), wrongViews()) {
		checkNothing(t, viewsItem(fullViews()), "wrong", b, 0)
		checkNothing(t, viewsItem(fullViews()), "wrong behind another", append([]byte{0}, b...), 1)
	}
}

// P6.1: a message with one part that is none, all others right.
func TestWrongMessages(t *testing.T) {
	var wrong [][][]byte
	for range 12 {
		wrong = append(wrong, wrongNumbers())
	}
	wrong = append(wrong, wrongTruths(), wrongTruths(), wrongTexts(), wrongTexts(), wrongVers(), wrongVers(), wrongOps())
	wrong = append(wrong, wrongLists(entryRow(someEntry(1)), wrongEntries()), wrongLists([]byte{2, 4}, wrongMembers()))
	wrong = append(wrong, wrongLists(viewRow(someView(2)), wrongViews()), wrongImages())
	for _, b := range wrongIn(msgParts(fullMsg()), wrong) {
		checkNoMsg(t, "wrong", b)
	}
}

// checkOneWay asks that what is read of the bytes, written again, is these bytes.
func checkOneWay(t *testing.T, x item, b []byte) {
	t.Helper()
	thing, to, ok := x.read(b, 0)
	if !ok {
		checkNothing(t, x, "not there", b, 0)
		return
	}
	if to < 0 || to > len(b) || !bytes.Equal(written(thing), b[:to]) {
		t.Fatalf("%s: %v is read as %s, up to %d, which is written otherwise", x.name, small(b), told(thing), to)
	}
}

func checkOneWayMsg(t *testing.T, b []byte) {
	t.Helper()
	m, ok := msg.Get(b)
	if !ok {
		checkNoMsg(t, "not there", b)
	} else if !bytes.Equal(msg.Put(m), b) {
		t.Fatalf("%v is read as %s, which is written otherwise", b, told(m))
	}
}

// P6.2: where one byte is any other one, what is read was written in the one way there is.
func TestOneByteDiffers(t *testing.T) {
	for _, x := range few() {
		for place := range x.row {
			for other := range 256 {
				b := append(x.row.clone(), 0, 0, 0, 0)
				b[place] = byte(other)
				checkOneWay(t, x, b)
			}
		}
	}
	for _, m := range []api.Msg{{}, fullMsg()} {
		b := msgRow(m)
		for place := range b {
			for other := range 256 {
				c := b.clone()
				c[place] = byte(other)
				checkOneWayMsg(t, c)
			}
		}
	}
}

// P6.2: bytes by chance, of few kinds, so that many of them are something.
func TestOneWay(t *testing.T) {
	random := rand.New(rand.NewSource(7))
	bits := []byte{0, 0, 0, 0, 0, 0, 0, 0, 1, 2, 2, 4, 6, 128, 255}
	for range 100000 {
		b := make([]byte, random.Intn(40))
		for i := range b {
			b[i] = pick(random, bits)
		}
		checkOneWay(t, imageItem(api.Image{}), b)
		checkOneWay(t, viewsItem(nil), b)
		checkOneWayMsg(t, b)
	}
}

// P6.2: of two of a kind that aren't the same, the bytes aren't the same either.
func TestNoTwoAlike(t *testing.T) {
	of := map[string]any{}
	check := func(name string, b []byte, thing any) {
		if other, ok := of[name+string(b)]; ok && !reflect.DeepEqual(other, thing) {
			t.Fatalf("%s: two have the bytes %v", name, small(b))
		}
		of[name+string(b)] = thing
	}
	for _, x := range items() {
		check(x.name, x.write(nil), x.thing)
	}
	for _, m := range msgs() {
		check("a message", msg.Put(m), m)
	}
}

// P6.3: out stays, with or without room behind its end: what lies there isn't written, and what is answered is other memory.
func TestOutStays(t *testing.T) {
	for _, x := range items() {
		for _, room := range []int{0, 1, 5, len(x.row) - 1, len(x.row), len(x.row) + 100} {
			full := bytes.Repeat([]byte{170}, 3+room)
			before := bytes.Clone(full)
			got := x.write(full[:3])
			if !bytes.Equal(full, before) {
				t.Fatalf("%s, with room for %d: what was handed in changed to %v", x.name, room, small(full))
			}
			clear(full)
			if !bytes.Equal(got, x.row.behind(before[:3])) {
				t.Fatalf("%s, with room for %d: what was answered changed with what was handed in", x.name, room)
			}
		}
	}
}

// P6.3: two calls with one out have answers that don't share memory.
func TestAnswersApart(t *testing.T) {
	out := append(make([]byte, 0, 1000), 1, 2, 3)
	for _, x := range few() {
		one, other := x.write(out), x.write(out)
		clear(one)
		if !bytes.Equal(other, x.row.behind(out)) || !bytes.Equal(out, []byte{1, 2, 3}) {
			t.Fatalf("%s: two answers share memory", x.name)
		}
	}
	one, other := msg.Put(fullMsg()), msg.Put(fullMsg())
	clear(one)
	if !bytes.Equal(other, msgRow(fullMsg())) {
		t.Errorf("two messages' bytes share memory")
	}
}

// P6.3: things that are written stay as they are.
func TestThingsStay(t *testing.T) {
	for _, m := range msgs() {
		same := sameMsg(m)
		msg.Put(m)
		msg.PutImage(nil, m.Image)
		msg.PutViews(nil, m.Views)
		if !reflect.DeepEqual(m, same) {
			t.Fatalf("what was handed in changed: %s to %s", told(same), told(m))
		}
	}
}

// P6.3: bytes that are read stay as they are, and what is read of them is memory of its own.
func TestReadIsNew(t *testing.T) {
	for _, x := range items() {
		b := x.row.behind([]byte{7}).raw(7)
		before := b.clone()
		thing, _, ok := x.read(b, 1)
		if !ok || !bytes.Equal(b, before) {
			t.Fatalf("reading %s changed what was handed in: %v", x.name, small(b))
		}
		clear(b)
		if !reflect.DeepEqual(thing, x.thing) {
			t.Fatalf("%s that was read changed with the bytes", x.name)
		}
	}
	for _, m := range msgs() {
		b := msgRow(m)
		n, ok := msg.Get(b)
		if !ok || !bytes.Equal(b, msgRow(m)) {
			t.Fatalf("reading a message changed what was handed in: %v", small(b))
		}
		clear(b)
		if !reflect.DeepEqual(n, m) {
			t.Fatalf("a message that was read changed with the bytes: %s", told(n))
		}
	}
}

// P6.3: no two lists of an answer share memory: what is put behind one's end, or into it, isn't in another one.
func TestListsApart(t *testing.T) {
	want := fullMsg()
	m, ok := msg.Get(msgRow(want))
	if !ok {
		t.Fatal("no message")
	}
	for i := range m.Views {
		_ = append(m.Views[i].Chain, api.Member{Node: -1, Boot: -1}, api.Member{Node: -1, Boot: -1})
	}
	_ = append(m.Chain, api.Member{Node: -1, Boot: -1}, api.Member{Node: -1, Boot: -1})
	_ = append(m.Entries, api.Entry{Num: -1}, api.Entry{Num: -1})
	_ = append(m.Image.Log, api.Entry{Num: -1}, api.Entry{Num: -1})
	if !reflect.DeepEqual(m, want) {
		t.Errorf("what was put behind a list is in another one: %s", told(m))
	}
	clear(m.Entries)
	clear(m.Chain)
	clear(m.Views[0].Chain)
	if !reflect.DeepEqual(m.Views[1:], want.Views[1:]) || !reflect.DeepEqual(m.Image, want.Image) {
		t.Errorf("what was put into a list is in another one: %s", told(m))
	}
}

// The chapter's example.
func TestExample(t *testing.T) {
	want := append([]byte{6, 200, 1, 2}, make([]byte, 32)...)
	if b := msg.Put(api.Msg{Kind: 3, From: 100, To: 1}); !bytes.Equal(b, want) {
		t.Errorf("Put of a message of Kind 3 from 100 to 1 = %v", b)
	}
}

// P1: none panics and all end: of what is no version, of texts and lists that are too long, and of counts that promise more than there is, too.
func TestNonePanics(t *testing.T) {
	long := strings.Repeat("x", 2*api.MaxText)
	for _, part := range []float64{math.NaN(), math.Inf(1), math.Inf(-1), -1, 0.5, math.MaxFloat64} {
		v := api.Ver(complex(part, part))
		msg.Put(api.Msg{Ver: v, Floor: v, Key: long, Val: long, Image: api.Image{Floor: v, Last: v, Seen: []api.Seen{{Ver: v, Res: long}}}})
	}
	for _, count := range []int{api.MaxList + 1, 2 * api.MaxList} {
		m := api.Msg{Chain: many(count, someMember)}
		checkNoMsg(t, "a chain of "+strconv.Itoa(count), msg.Put(m))
		checkNoMsg(t, "a log of "+strconv.Itoa(count), msg.Put(api.Msg{Image: api.Image{Log: many(count, someEntry)}}))
		checkNothing(t, viewsItem(nil), "too many views", msg.PutViews(nil, many(count, someView)), 0)
	}
	// Each view's chain, too, is said to have as many as there may be.
	deep := row(nil).number(api.MaxList)
	for range api.MaxList {
		deep = deep.numbers(0, 0, 0, 0, api.MaxList)
	}
	checkNothing(t, viewsItem(nil), "counts in counts", deep, 0)
}
