package net_test

import (
	"math"
	"math/rand"
	"slices"
	"strconv"
	"testing"

	"lockgate/api"
	"lockgate/net"
)

// life is a net, the model that it is held against, and what was sent with each number: that of a copy is what was sent with the first one's.
type life struct {
	n      api.Net
	x      model
	first  map[int]int
	origin map[int]string
}

// step does one call, chosen by chance, of the net and of the model.
func (f *life) step(t *testing.T, r *rand.Rand) {
	t.Helper()
	i := r.Intn(12)
	if r.Intn(8) == 0 {
		i = r.Intn(math.MaxInt)
	}
	switch r.Intn(9) {
	case 0, 1, 2:
		text := "t" + strconv.Itoa(r.Int())[:r.Intn(9)]
		f.first[f.n.Next], f.origin[f.n.Next] = f.n.Next, text
		b := []byte(text)
		f.n, f.x = net.Send(f.n, i%5, b), f.x.send(i%5, text)
		// Whoever sent them may write over the bytes later.
		clear(b)
	case 3, 4:
		p, n, ok := net.Take(f.n, i)
		want, rest, there := f.x.take(i)
		if ok != there {
			t.Fatalf("take %d: %v", i, ok)
		}
		checkPacket(t, "taken", p, want)
		f.whence(t, p, ok)
		f.n, f.x = n, rest
		// Whoever took it may write over its bytes, and behind them.
		clear(p.B[:cap(p.B)])
	case 5:
		f.n, f.x = net.Drop(f.n, i), f.x.drop(i)
	case 6, 7:
		if at, ok := f.x.at(i); ok {
			f.first[f.n.Next] = f.first[f.x.list[at].id]
		}
		f.n, f.x = net.Copy(f.n, i), f.x.copy(i)
	case 8:
		f.n, f.x = net.Cut(f.n, i%9), f.x.cut(i%9)
	}
}

// whence holds the packet's bytes against those that were sent.
func (f *life) whence(t *testing.T, p api.Packet, ok bool) {
	t.Helper()
	if text := f.origin[f.first[p.Id]]; ok && string(p.B) != text {
		t.Fatalf("packet %d: %q, and sent was %q", p.Id, p.B, text)
	}
}

// P11.1, P11.2: in long lives of all kinds of calls each answer is the model's; numbers rise, and lie below the next one; and each packet's bytes are those that were sent with its number, or with that of the one of which it is a copy, a copy's copy too.
func TestLives(t *testing.T) {
	for seed := range 200 {
		r := rand.New(rand.NewSource(int64(seed)))
		f := &life{first: map[int]int{}, origin: map[int]string{}}
		if seed%2 == 1 {
			f.x.next = 1<<62 - 500
			f.n.Next = f.x.next
		}
		for range 400 {
			f.step(t, r)
			check(t, "behind a step", f.n, f.x)
			last := -1
			for _, p := range f.n.List {
				if p.Id <= last || p.Id >= f.n.Next {
					t.Fatalf("numbers don't rise: %s", told(f.n))
				}
				last = p.Id
				f.whence(t, p, true)
			}
		}
	}
}

// P11.2: a copy's bytes stay, when the one of which it is a copy is gone, and the other way round.
func TestCopiesApart(t *testing.T) {
	for _, order := range [][]int{{0, 1, 2}, {0, 2, 1}, {1, 0, 2}, {1, 2, 0}, {2, 0, 1}, {2, 1, 0}} {
		n := net.Copy(net.Copy(net.Send(api.Net{}, 7, []byte("text")), 0), 1)
		for _, id := range order {
			at := slices.IndexFunc(n.List, func(p api.Packet) bool { return p.Id == id })
			p, rest, ok := net.Take(n, at)
			if !ok {
				t.Fatalf("packet %d is gone", id)
			}
			checkPacket(t, "taken", p, sent{id, 7, "text"})
			clear(p.B)
			n = rest
		}
		check(t, "all are taken", n, model{next: 3})
	}
}

// P11.1: what a call answers hangs on its arguments alone: nets go on apart from one another.
func TestApart(t *testing.T) {
	x := some(5)
	n := x.net()
	one, two := net.Send(n, 1, []byte("one")), net.Send(n, 2, []byte("two"))
	check(t, "the one", net.Send(one, 3, []byte("more")), x.send(1, "one").send(3, "more"))
	check(t, "the other one", net.Copy(two, 5), x.send(2, "two").send(2, "two"))
	check(t, "the one, as it was", one, x.send(1, "one"))
	check(t, "the other one, as it was", two, x.send(2, "two"))
	for range 3 {
		check(t, "again", net.Drop(n, 3), x.drop(3))
		check(t, "the net itself", n, x)
	}
}
