package msg_test

import (
	"bytes"
	"encoding/binary"
	"fmt"
	"math"
	"math/rand"
	"reflect"
	"slices"
	"strconv"
	"strings"
	"testing"

	"lockgate/api"
	"lockgate/msg"
	"lockgate/ver"
)

// row is a thing's bytes, written by the library and apart from the program.
type row []byte

func (r row) number(n int) row      { return binary.AppendVarint(r, int64(n)) }
func (r row) text(s string) row     { return append(r.number(len(s)), s...) }
func (r row) ver(v api.Ver) row     { return r.number(int(real(v))).number(int(imag(v))) }
func (r row) raw(b ...byte) row     { return append(r, b...) }
func (r row) clone() row            { return bytes.Clone(r) }
func (r row) behind(out []byte) row { return append(bytes.Clone(out), r...) }

func (r row) truth(is bool) row {
	if is {
		return append(r, 1)
	}
	return append(r, 0)
}

func (r row) numbers(l ...int) row {
	for _, n := range l {
		r = r.number(n)
	}
	return r
}

// listRow is a list's bytes: each item's are what of tells.
func listRow[T any](l []T, of func(x T) row) row {
	r := row(nil).number(len(l))
	for _, x := range l {
		r = r.raw(of(x)...)
	}
	return r
}

func opRow(o api.Op) row {
	return row(nil).number(o.Kind).text(o.Key).text(o.Val).text(o.Old).truth(o.HasOld)
}

func entryRow(e api.Entry) row {
	r := row(nil).ver(e.Ver).number(e.Kind).text(e.Key).text(e.Val).truth(e.Write).truth(e.Del)
	return r.numbers(e.Sess, e.Num, e.Code).text(e.Res).truth(e.HasRes)
}

func memberRow(m api.Member) row { return row(nil).numbers(m.Node, m.Boot) }

func viewRow(v api.View) row {
	return row(nil).numbers(v.Shard, v.Epoch, v.Gen, v.Phase).raw(listRow(v.Chain, memberRow)...)
}

func seenRow(s api.Seen) row {
	return row(nil).numbers(s.Sess, s.Num).ver(s.Ver).numbers(s.Kind, s.Code).text(s.Res).truth(s.HasRes)
}

func imageRow(x api.Image) row {
	return bytes.Join([][]byte{row(nil).ver(x.Floor).ver(x.Last).number(x.Gen), listRow(x.Log, entryRow), listRow(x.Seen, seenRow)}, nil)
}

func viewsRow(l []api.View) row { return listRow(l, viewRow) }

// msgParts are a message's 24 parts, each as bytes of its own.
func msgParts(m api.Msg) [][]byte {
	var l [][]byte
	for _, n := range []int{m.Kind, m.From, m.To, m.Boot, m.SBoot, m.Shard, m.Epoch, m.Gen, m.Sess, m.Num, m.A, m.Code} {
		l = append(l, row(nil).number(n))
	}
	l = append(l, row(nil).truth(m.Has), row(nil).truth(m.Fresh), row(nil).text(m.Key), row(nil).text(m.Val))
	l = append(l, row(nil).ver(m.Ver), row(nil).ver(m.Floor), opRow(m.Op))
	l = append(l, listRow(m.Entries, entryRow), listRow(m.Chain, memberRow), viewsRow(m.Views))
	return append(l, imageRow(m.Image))
}

func msgRow(m api.Msg) row { return bytes.Join(msgParts(m), nil) }

// someInts, someTexts and someVers are ordinary ones, and those at their bounds.
func someInts() []int {
	return []int{0, 1, -1, 2, 5, 63, 64, -64, -65, 8191, 8192, 1 << 40, 1<<62 - 1, 1 << 62, math.MaxInt, math.MinInt}
}

func someTexts() []string {
	return []string{
		"", "a", "ab", "\x00", "\x80\xff", "é世", strings.Repeat("x", 63), strings.Repeat("x", 64),
		strings.Repeat("\x00", api.MaxText-1), strings.Repeat("z", api.MaxText),
	}
}

func someVers() []api.Ver {
	return []api.Ver{0, ver.Make(0, 1), ver.Make(1, 0), ver.Make(63, 64), ver.Make(api.MaxCount, 0), ver.Make(0, api.MaxCount), ver.Make(api.MaxCount, api.MaxCount)}
}

// someCounts are how many a list may have.
func someCounts() []int { return []int{0, 1, 2, 3, 63, 64, 65, api.MaxList - 1, api.MaxList} }

// The things that are numbered n have something of it in each field.
func someEntry(n int) api.Entry {
	s := strconv.Itoa(n)
	return api.Entry{
		Ver: ver.Make(n, n+1), Kind: n + 2, Key: "k" + s, Val: "v" + s, Write: n%2 == 0, Del: n%3 == 0,
		Sess: n + 3, Num: -n, Code: n + 5, Res: "r" + s, HasRes: n%5 == 0,
	}
}

func someMember(n int) api.Member { return api.Member{Node: n, Boot: 100 - n} }

func someView(n int) api.View {
	return api.View{Shard: n, Epoch: n + 10, Gen: n + 20, Phase: n + 30, Chain: many(n%4, someMember)}
}

func someSeen(n int) api.Seen {
	return api.Seen{Sess: n, Num: n + 1, Ver: ver.Make(n+2, n+3), Kind: n + 4, Code: -n, Res: "r" + strconv.Itoa(n), HasRes: n%2 == 1}
}

// many are the first count things; none is nil.
func many[T any](count int, of func(n int) T) []T {
	var l []T
	for n := range count {
		l = append(l, of(n))
	}
	return l
}

// fullImage, fullViews and fullMsg have something else in each field.
func fullImage() api.Image {
	return api.Image{
		Floor: ver.Make(1, 2), Last: ver.Make(3, 4), Gen: 5,
		Log:  []api.Entry{{Ver: ver.Make(2, 3), Kind: api.Put, Key: "a", Val: "b", Write: true, Sess: 6, Num: 7}, {Code: api.Gone, Res: "r", HasRes: true}},
		Seen: []api.Seen{{Sess: 8, Num: 9, Ver: ver.Make(3, 4), Kind: api.Swap, Code: api.Other, Res: "s", HasRes: true}, {Sess: 10}},
	}
}

func fullViews() []api.View {
	return []api.View{
		{Shard: 1, Epoch: 2, Gen: 3, Phase: api.Frozen, Chain: []api.Member{{Node: 2, Boot: 1}, {Node: 3, Boot: 7}}},
		{Shard: 2, Phase: api.Active},
		{Shard: 3, Chain: []api.Member{{Node: 4, Boot: 5}}},
	}
}

func fullMsg() api.Msg {
	return api.Msg{
		Kind: api.Install, From: 2, To: 100, Boot: 3, SBoot: 4, Shard: 5, Epoch: 6, Gen: 7, Sess: 8, Num: 9, A: -10, Code: 11,
		Has: true, Fresh: true, Key: "key", Val: "vv", Ver: ver.Make(12, 13), Floor: ver.Make(14, 15),
		Op:      api.Op{Kind: api.Swap, Key: "o", Val: "p", Old: "q", HasOld: true},
		Entries: []api.Entry{{Ver: ver.Make(16, 17), Kind: api.Delete, Key: "x", Write: true, Del: true, Num: 18}},
		Chain:   []api.Member{{Node: 19, Boot: 20}, {Node: 21, Boot: 22}},
		Views:   fullViews(), Image: fullImage(),
	}
}

// pick is one of a list.
func pick[T any](random *rand.Rand, l []T) T { return l[random.Intn(len(l))] }

// images, views and msgs have one field at a time that is something else, ahead of and behind nothing and full ones.
func images() []api.Image {
	l := []api.Image{{}, fullImage()}
	for _, base := range []api.Image{{}, fullImage()} {
		for _, v := range someVers() {
			x, y := base, base
			x.Floor, y.Last = v, v
			l = append(l, x, y)
		}
		for _, n := range someInts() {
			x := base
			x.Gen = n
			l = append(l, x)
		}
		for _, count := range someCounts() {
			x, y := base, base
			x.Log, y.Seen = many(count, someEntry), many(count, someSeen)
			l = append(l, x, y)
		}
	}
	for _, s := range seens() {
		l = append(l, api.Image{Seen: []api.Seen{someSeen(1), s, someSeen(2)}})
	}
	return l
}

func seens() []api.Seen {
	var l []api.Seen
	for _, base := range []api.Seen{{}, someSeen(1)} {
		for _, n := range someInts() {
			s, t, u, v := base, base, base, base
			s.Sess, t.Num, u.Kind, v.Code = n, n, n, n
			l = append(l, s, t, u, v)
		}
		for _, v := range someVers() {
			s := base
			s.Ver = v
			l = append(l, s)
		}
		for _, text := range someTexts() {
			s := base
			s.Res = text
			l = append(l, s)
		}
		base.HasRes = !base.HasRes
		l = append(l, base)
	}
	return l
}

func views() [][]api.View {
	l := [][]api.View{nil, fullViews()}
	for _, n := range someInts() {
		v := someView(2)
		s, t, u, w := v, v, v, v
		s.Shard, t.Epoch, u.Gen, w.Phase = n, n, n, n
		l = append(l, []api.View{s, t}, []api.View{u, w, {}})
		l = append(l, []api.View{{Shard: 1, Chain: []api.Member{{Node: n}, {Boot: n}, {Node: n, Boot: n}}}})
	}
	for _, count := range someCounts() {
		l = append(l, many(count, someView), []api.View{{Shard: 1, Chain: many(count, someMember)}, someView(3)})
	}
	return l
}

func msgs() []api.Msg {
	l := []api.Msg{{}, fullMsg()}
	for _, base := range []api.Msg{{}, fullMsg()} {
		for i := range intFields(&base) {
			for _, n := range someInts() {
				m := base
				*intFields(&m)[i] = n
				l = append(l, m)
			}
		}
		l = append(l, smallFields(base)...)
		l = append(l, greatFields(base)...)
	}
	return append(l, randomMsgs()...)
}

func intFields(m *api.Msg) []*int {
	return []*int{&m.Kind, &m.From, &m.To, &m.Boot, &m.SBoot, &m.Shard, &m.Epoch, &m.Gen, &m.Sess, &m.Num, &m.A, &m.Code}
}

func smallFields(base api.Msg) []api.Msg {
	m, n := base, base
	m.Has, n.Fresh = !base.Has, !base.Fresh
	l := []api.Msg{m, n}
	for _, s := range someTexts() {
		m, n, o := base, base, base
		m.Key, n.Val, o.Op.Old = s, s, s
		l = append(l, m, n, o)
	}
	for _, v := range someVers() {
		m, n := base, base
		m.Ver, n.Floor = v, v
		l = append(l, m, n)
	}
	for _, o := range []api.Op{{}, {Kind: api.Get}, {Key: "k"}, {Val: "v"}, {Old: "o"}, {HasOld: true}} {
		m := base
		m.Op = o
		l = append(l, m)
	}
	return l
}

func greatFields(base api.Msg) []api.Msg {
	var l []api.Msg
	for _, count := range someCounts() {
		m, n, o, p := base, base, base, base
		m.Entries, n.Chain, o.Views = many(count, someEntry), many(count, someMember), many(count, someView)
		p.Image.Log, p.Image.Seen = many(count, someEntry), many(count, someSeen)
		l = append(l, m, n, o, p)
	}
	return l
}

func randomMsgs() []api.Msg {
	random := rand.New(rand.NewSource(6))
	var l []api.Msg
	for range 200 {
		m := api.Msg{
			Has: random.Intn(2) == 1, Fresh: random.Intn(2) == 1, Key: pick(random, someTexts()[:8]), Val: pick(random, someTexts()[:8]),
			Ver: pick(random, someVers()), Floor: pick(random, someVers()), Op: api.Op{Kind: random.Intn(6), Key: "k", HasOld: random.Intn(2) == 1},
			Entries: many(random.Intn(4), someEntry), Chain: many(random.Intn(4), someMember), Views: many(random.Intn(6), someView),
			Image: api.Image{Last: pick(random, someVers()), Gen: random.Intn(9), Log: many(random.Intn(4), someEntry), Seen: many(random.Intn(4), someSeen)},
		}
		for _, field := range intFields(&m) {
			*field = pick(random, someInts())
		}
		l = append(l, m)
	}
	return l
}

// item is a thing that stands somewhere in bytes, its bytes, worked out apart, and its two calls with the type taken away.
type item struct {
	name  string
	thing any
	row   row
	write func(out []byte) []byte
	read  func(b []byte, at int) (any, int, bool)
}

func readImage(b []byte, at int) (any, int, bool) { x, to, ok := msg.GetImage(b, at); return x, to, ok }
func readViews(b []byte, at int) (any, int, bool) { l, to, ok := msg.GetViews(b, at); return l, to, ok }

func imageItem(x api.Image) item {
	return item{"an image", x, imageRow(x), func(out []byte) []byte { return msg.PutImage(out, x) }, readImage}
}

func viewsItem(l []api.View) item {
	return item{"views", l, viewsRow(l), func(out []byte) []byte { return msg.PutViews(out, l) }, readViews}
}

func items() []item {
	var l []item
	for _, x := range images() {
		l = append(l, imageItem(x))
	}
	for _, x := range views() {
		l = append(l, viewsItem(x))
	}
	return l
}

// few are short ones of both kinds, whose bytes can each be tried.
func few() []item {
	return []item{imageItem(api.Image{}), imageItem(fullImage()), viewsItem(nil), viewsItem(fullViews())}
}

// written is what the program writes of a thing that was read.
func written(thing any) []byte {
	switch x := thing.(type) {
	case api.Image:
		return msg.PutImage(nil, x)
	case []api.View:
		return msg.PutViews(nil, x)
	}
	return nil
}

// isNothing tells whether a thing that was read is the zero value of its type.
func isNothing(thing any) bool {
	switch x := thing.(type) {
	case api.Image:
		return reflect.DeepEqual(x, api.Image{})
	case []api.View:
		return len(x) == 0
	}
	return false
}

// checkNothing asks that nothing stands there, and that beside the false all is zero.
func checkNothing(t *testing.T, x item, name string, b []byte, at int) {
	t.Helper()
	thing, to, ok := x.read(b, at)
	if ok || to != 0 || !isNothing(thing) {
		t.Fatalf("%s, %s: %v at %d tells %s, %d, %v", x.name, name, small(b), at, told(thing), to, ok)
	}
}

// checkNoMsg asks that b is no message's bytes, and that beside the false all is zero.
func checkNoMsg(t *testing.T, name string, b []byte) {
	t.Helper()
	m, ok := msg.Get(b)
	if ok || !reflect.DeepEqual(m, api.Msg{}) {
		t.Fatalf("%s: Get(%v) = %s, %v", name, small(b), told(m), ok)
	}
}

// cuts are places where n bytes are cut: all of few, and of many those near both ends and some between.
func cuts(n int) []int {
	var l []int
	for at := range n {
		if at < 60 || at >= n-60 || at%4099 == 0 {
			l = append(l, at)
		}
	}
	return l
}

// small and told keep short, and readable, what a failing test tells.
func small(b []byte) []byte { return b[:min(len(b), 48)] }

func told(thing any) string {
	s := strconv.QuoteToASCII(fmt.Sprint(thing))
	return s[:min(len(s), 200)]
}

// sameMsg is a message of the same fields whose lists are memory of their own.
func sameMsg(m api.Msg) api.Msg {
	m.Entries, m.Chain, m.Views = slices.Clone(m.Entries), slices.Clone(m.Chain), sameViews(m.Views)
	m.Image = sameImage(m.Image)
	return m
}

func sameImage(x api.Image) api.Image {
	x.Log, x.Seen = slices.Clone(x.Log), slices.Clone(x.Seen)
	return x
}

func sameViews(l []api.View) []api.View {
	l = slices.Clone(l)
	for i := range l {
		l[i].Chain = slices.Clone(l[i].Chain)
	}
	return l
}
