package net_test

import (
	"slices"
	"strconv"
	"testing"

	"lockgate/api"
	"lockgate/net"
)

// answer is what a call answers: packet is what Take does beside.
type answer struct {
	n      api.Net
	packet api.Packet
	taken  bool
}

// asked is a call of a net, and what the model answers to it.
type asked struct {
	what string
	call func(n api.Net, b []byte) answer
	want func(x model, text string) model
}

// calls are all calls, at all places of a net of size packets, and one beyond.
func calls(size int) []asked {
	l := []asked{{
		"send",
		func(n api.Net, b []byte) answer { return answer{n: net.Send(n, 7, b)} },
		func(x model, text string) model { return x.send(7, text) },
	}}
	for i := range size + 1 {
		at := " " + strconv.Itoa(i)
		l = append(l, asked{
			"take" + at,
			func(n api.Net, _ []byte) answer {
				p, rest, ok := net.Take(n, i)
				return answer{rest, p, ok}
			},
			func(x model, _ string) model { return x.drop(i) },
		}, asked{
			"drop" + at,
			func(n api.Net, _ []byte) answer { return answer{n: net.Drop(n, i)} },
			func(x model, _ string) model { return x.drop(i) },
		}, asked{
			"copy" + at,
			func(n api.Net, _ []byte) answer { return answer{n: net.Copy(n, i)} },
			func(x model, _ string) model { return x.copy(i) },
		}, asked{
			"cut" + at,
			func(n api.Net, _ []byte) answer { return answer{n: net.Cut(n, i)} },
			func(x model, _ string) model { return x.cut(i) },
		})
	}
	return l
}

// roomy is the text's bytes, with others behind their end that nobody may write over.
func roomy(text string) []byte {
	b := append([]byte(text), "behind the end"...)
	return b[:len(text)]
}

// room is the model's net, with a packet behind the list's end and bytes behind those of each packet that nobody may write over.
func room(x model) api.Net {
	n := x.net()
	for i := range n.List {
		n.List[i].B = roomy(string(n.List[i].B))
	}
	n.List = append(n.List, api.Packet{Id: 77, To: 78, B: []byte("behind")}, api.Packet{Id: 79, To: 80, B: []byte("it, too")})
	n.List = n.List[:len(x.list)]
	return n
}

// whole is all that a net has, up to the capacities, as text.
func whole(n api.Net) string {
	s := "next " + strconv.Itoa(n.Next)
	for _, p := range n.List[:cap(n.List)] {
		s += " " + strconv.Itoa(p.Id) + ">" + strconv.Itoa(p.To) + " " + strconv.Quote(string(p.B[:cap(p.B)]))
	}
	return s
}

// spoil writes over all that a net has, up to the capacities.
func spoil(n api.Net) {
	l := n.List[:cap(n.List)]
	for i := range l {
		spoilBytes(l[i].B)
		l[i] = api.Packet{Id: 99, To: 99, B: []byte("spoilt")}
	}
}

func spoilBytes(b []byte) {
	b = b[:cap(b)]
	for i := range b {
		b[i] = '?'
	}
}

// P11.3: what is handed in stays, also behind the ends of the list and of the bytes.
func TestHandedInStays(t *testing.T) {
	for size := range 6 {
		for _, c := range calls(size) {
			x := some(size)
			n, b := room(x), roomy("sent")
			was := whole(n)
			got := c.call(n, b)
			check(t, c.what, got.n, c.want(x, "sent"))
			if whole(n) != was || string(b[:cap(b)]) != string(roomy("sent")[:cap(b)]) {
				t.Fatalf("%s, of %s: handed in is now %s, and %q", c.what, was, whole(n), b)
			}
		}
	}
}

// P11.3: what is answered is new memory: what is handed in may be written over, and no answer becomes another one.
func TestAnswersApart(t *testing.T) {
	for size := range 6 {
		for _, c := range calls(size) {
			x := some(size)
			n, b := room(x), roomy("sent")
			got := c.call(n, b)
			packet := string(got.packet.B)
			spoil(n)
			spoilBytes(b)
			check(t, c.what, got.n, c.want(x, "sent"))
			if string(got.packet.B) != packet {
				t.Fatalf("%s: the packet became %q", c.what, got.packet.B)
			}
		}
	}
}

// P11.3: whoever writes over an answer, up to its capacities, changes nothing of what was handed in.
func TestAnswersSpoilt(t *testing.T) {
	for size := range 6 {
		for _, c := range calls(size) {
			n, b := room(some(size)), roomy("sent")
			was := whole(n)
			got := c.call(n, b)
			spoil(got.n)
			spoilBytes(got.packet.B)
			if whole(n) != was || string(b[:cap(b)]) != string(roomy("sent")[:cap(b)]) {
				t.Fatalf("%s: handed in became %s, and %q", c.what, whole(n), b)
			}
		}
	}
}

// P11.3: no two lists of one answer share any memory: whoever writes over the bytes of one packet, or behind them, changes no other one; whoever appends to them neither.
func TestListsApart(t *testing.T) {
	for size := range 6 {
		for _, c := range calls(size) {
			x := some(size)
			want := c.want(x, "sent")
			for k := range len(want.list) + 1 {
				got := c.call(room(x), roomy("sent"))
				if k == len(want.list) {
					_ = append(got.packet.B, "appended"...)
					spoilBytes(got.packet.B)
					check(t, c.what+", the packet spoilt", got.n, want)
					continue
				}
				packet := string(got.packet.B)
				_ = append(got.n.List[k].B, "appended"...)
				spoilBytes(got.n.List[k].B)
				got.n.List[k].B = []byte(want.list[k].text)
				check(t, c.what+", one spoilt", got.n, want)
				if string(got.packet.B) != packet {
					t.Fatalf("%s: the packet became %q", c.what, got.packet.B)
				}
			}
		}
	}
}

// P11.3: a packet that is taken is in no place of the net that is left, not even behind its list's end.
func TestTakenApart(t *testing.T) {
	for size := 1; size < 6; size++ {
		for i := range size {
			p, n, ok := net.Take(some(size).net(), i)
			behind := n.List[len(n.List):cap(n.List)]
			if !ok || slices.ContainsFunc(behind, func(q api.Packet) bool { return len(p.B) > 0 && len(q.B) > 0 && &q.B[0] == &p.B[0] }) {
				t.Fatalf("%d of %d is behind the end of those that are left", i, size)
			}
		}
	}
}
