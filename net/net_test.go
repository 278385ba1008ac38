package net_test

import (
	"math"
	"strconv"
	"strings"
	"testing"

	"lockgate/api"
	"lockgate/net"
)

// places are places of nets of up to some eight packets: those around each round, and the greatest ones.
func places() []int {
	var l []int
	for i := range 30 {
		l = append(l, i)
	}
	return append(l, 1<<31-1, 1<<31, 1<<32+1, 1<<62-1, 1<<62, 1<<62+1, math.MaxInt-1, math.MaxInt)
}

// P11.1: the chapter's example.
func TestExample(t *testing.T) {
	n := net.Copy(net.Send(net.Send(api.Net{}, 4, []byte("a")), 5, []byte("b")), 0)
	check(t, "a, b, and a copy of a", n, model{3, []sent{{0, 4, "a"}, {1, 5, "b"}, {2, 4, "a"}}})
	p, rest, ok := net.Take(n, 4)
	if !ok {
		t.Fatal("there is no place 4")
	}
	checkPacket(t, "at the place 4", p, sent{1, 5, "b"})
	check(t, "without b", rest, model{3, []sent{{0, 4, "a"}, {2, 4, "a"}}})
}

// P11.1: a packet that is sent stands at the end; its number is the net's next one, whatever stands ahead of it.
func TestSend(t *testing.T) {
	for size := range 8 {
		for _, to := range []int{api.Store, api.Coord, api.Node, api.Node + 1, api.Admin, api.Mate, -1, math.MaxInt, math.MinInt} {
			for _, text := range []string{"", "a", "\x00", "\xff\x80é"} {
				x := some(size)
				n := net.Send(x.net(), to, []byte(text))
				check(t, "sent", n, x.send(to, text))
				last := n.List[len(n.List)-1]
				checkPacket(t, "the last one", last, sent{3*size + 5, to, text})
			}
		}
	}
	check(t, "of no bytes", net.Send(api.Net{}, 1, nil), model{1, []sent{{0, 1, ""}}})
}

// P11.1: numbers go on up to the last one of which the chapter speaks.
func TestSendNumbers(t *testing.T) {
	for _, next := range []int{0, 1, 7, 1 << 31, 1 << 32, 1<<53 + 1, 1<<62 - 1, 1 << 62} {
		x := model{next: next}
		check(t, "the first one", net.Send(x.net(), 1, []byte("a")), model{next + 1, []sent{{next, 1, "a"}}})
		if next == 0 {
			continue
		}
		x = model{next, []sent{{0, 1, "a"}}}
		if next > 1 {
			x.list = append(x.list, sent{next - 1, 2, "b"})
		}
		n := net.Send(x.net(), 3, []byte("c"))
		check(t, "one more", n, x.send(3, "c"))
		check(t, "a copy", net.Copy(x.net(), 0), x.send(1, "a"))
	}
}

// P11.1: bytes of every kind and of many lengths are under way as they are.
func TestBytes(t *testing.T) {
	all := make([]byte, 256)
	for i := range all {
		all[i] = byte(i)
	}
	var x model
	n := api.Net{}
	for i, text := range []string{string(all), "", strings.Repeat("long ", 1<<18), "x", "", string(all[128:]), strings.Repeat("\x00", 1000)} {
		n, x = net.Send(n, i%2, []byte(text)), x.send(i%2, text)
		check(t, "sent", n, x)
	}
	for len(x.list) > 0 {
		n, x = net.Copy(n, 1), x.copy(1)
		check(t, "copied", n, x)
		for range 2 {
			p, rest, ok := net.Take(n, 0)
			want, left, _ := x.take(0)
			if !ok {
				t.Fatal("there is none")
			}
			checkPacket(t, "taken", p, want)
			n, x = rest, left
			check(t, "left", n, x)
		}
	}
}

// P11.1: the packet at each place of nets of all small sizes is taken, dropped, copied; the place goes round.
func TestPlaces(t *testing.T) {
	for size := 1; size < 9; size++ {
		for _, i := range places() {
			x, what := some(size), strconv.Itoa(size)+" packets, at "+strconv.Itoa(i)
			want, rest, _ := x.take(i)
			if want != x.list[i%size] {
				t.Fatalf("%s: the model takes %v", what, want)
			}
			p, n, ok := net.Take(x.net(), i)
			if !ok {
				t.Fatalf("%s: there is none", what)
			}
			checkPacket(t, what, p, want)
			check(t, what+", taken", n, rest)
			check(t, what+", dropped", net.Drop(x.net(), i), rest)
			check(t, what+", copied", net.Copy(x.net(), i), x.copy(i))
		}
	}
}

// P11.1: a net that has no packet answers itself, and its next number stays.
func TestNone(t *testing.T) {
	for _, next := range []int{0, 1, 9, 1 << 62} {
		for _, list := range [][]api.Packet{nil, {}, make([]api.Packet, 0, 3)} {
			for _, i := range places() {
				n := api.Net{Next: next, List: list}
				p, rest, ok := net.Take(n, i)
				if ok {
					t.Fatalf("%d of none: taken", i)
				}
				checkPacket(t, "of none", p, sent{})
				for _, got := range []api.Net{rest, net.Drop(n, i), net.Copy(n, i), net.Cut(n, i)} {
					check(t, "none", got, model{next: next})
				}
			}
		}
	}
}

// P11.1: all that are to the process are cut, be they first, last, beside one another, none or all; the others stay in their order.
func TestCut(t *testing.T) {
	for row := range 1 << 6 {
		x := model{next: 40}
		for k := range 6 {
			x.list = append(x.list, sent{2*k + 1, api.Node + row>>k&1, strconv.Itoa(k)})
		}
		for _, to := range []int{api.Node, api.Node + 1, api.Node + 2, 0, -1, math.MaxInt, math.MinInt, 40, 1} {
			check(t, "cut", net.Cut(x.net(), to), x.cut(to))
		}
	}
	x := model{6, []sent{{0, -1, "a"}, {1, 0, "b"}, {2, 100, "c"}, {3, 99, "d"}, {4, 1, "e"}, {5, 0, "f"}}}
	check(t, "the store's", net.Cut(x.net(), 0), model{6, []sent{{0, -1, "a"}, {2, 100, "c"}, {3, 99, "d"}, {4, 1, "e"}}})
	check(t, "a client's", net.Cut(x.net(), 100), model{6, []sent{{0, -1, "a"}, {1, 0, "b"}, {3, 99, "d"}, {4, 1, "e"}, {5, 0, "f"}}})
}

// P11.1: a number isn't given again, even if all packets behind it are gone.
func TestNumbersStay(t *testing.T) {
	n := net.Send(net.Send(api.Net{}, 1, []byte("a")), 1, []byte("b"))
	_, n, _ = net.Take(n, 1)
	n = net.Drop(n, 0)
	check(t, "empty again", n, model{next: 2})
	n = net.Send(n, 2, []byte("c"))
	check(t, "c", n, model{3, []sent{{2, 2, "c"}}})
	n = net.Cut(n, 2)
	check(t, "empty once more", n, model{next: 3})
	check(t, "d", net.Send(n, 3, []byte("d")), model{4, []sent{{3, 3, "d"}}})
}

// P11.1: nets of many packets are no other ones.
func TestMany(t *testing.T) {
	var x model
	for i := range 3000 {
		x = model{x.next + 1 + i%2, append(x.list, sent{x.next, i % 7, strconv.Itoa(i)})}
	}
	for _, i := range []int{0, 1, 1499, 2998, 2999, 3000, 5999, 1 << 40} {
		want, rest, _ := x.take(i)
		p, n, ok := net.Take(x.net(), i)
		if !ok {
			t.Fatal("there is none")
		}
		checkPacket(t, "one of many", p, want)
		check(t, "the others", n, rest)
		check(t, "copied", net.Copy(x.net(), i), x.copy(i))
		check(t, "cut", net.Cut(x.net(), i%8), x.cut(i%8))
	}
}

// Of places below 0, of numbers that don't rise, and of ones beyond the chapter's nothing is promised, but that the calls end and don't panic.
func TestWrong(t *testing.T) {
	packets := []api.Packet{{Id: 5, To: 1, B: []byte("a")}, {Id: 5, To: 2}, {Id: -1, To: 1, B: []byte{}}}
	for _, n := range []api.Net{{}, {Next: -1}, {Next: math.MaxInt, List: packets}, {Next: math.MinInt, List: packets}, {List: packets[:1]}} {
		for _, i := range []int{-1, -2, -3, -4, math.MinInt, math.MinInt + 1, 0, math.MaxInt} {
			net.Send(n, i, nil)
			net.Take(n, i)
			net.Drop(n, i)
			net.Copy(n, i)
			net.Cut(n, i)
		}
	}
}
