package net_test

import (
	"slices"
	"strconv"
	"testing"

	"lockgate/api"
)

// sent is a packet whose bytes nobody can write into.
type sent struct {
	id, to int
	text   string
}

// model is a net, done by loops.
type model struct {
	next int
	list []sent
}

func (x model) send(to int, text string) model {
	return model{x.next + 1, append(slices.Clone(x.list), sent{x.next, to, text})}
}

// at is the packet at the place i, found by going round the list, half of all rounds at once.
func (x model) at(i int) (int, bool) {
	if len(x.list) == 0 {
		return 0, false
	}
	for i >= len(x.list) {
		i -= len(x.list) * max(1, i/len(x.list)/2)
	}
	return i, true
}

func (x model) take(i int) (sent, model, bool) {
	at, ok := x.at(i)
	if !ok {
		return sent{}, x, false
	}
	rest := model{next: x.next}
	for k, p := range x.list {
		if k != at {
			rest.list = append(rest.list, p)
		}
	}
	return x.list[at], rest, true
}

func (x model) drop(i int) model {
	_, rest, _ := x.take(i)
	return rest
}

func (x model) copy(i int) model {
	at, ok := x.at(i)
	if !ok {
		return x
	}
	return x.send(x.list[at].to, x.list[at].text)
}

func (x model) cut(to int) model {
	rest := model{next: x.next}
	for _, p := range x.list {
		if p.to != to {
			rest.list = append(rest.list, p)
		}
	}
	return rest
}

// net is the model's net, in memory of its own.
func (x model) net() api.Net {
	n := api.Net{Next: x.next}
	for _, p := range x.list {
		n.List = append(n.List, api.Packet{Id: p.id, To: p.to, B: []byte(p.text)})
	}
	return n
}

// some is a net of n packets to three processes, with numbers that rise by more than one, and texts that all are others; one of them is empty.
func some(n int) model {
	x := model{next: 3*n + 5}
	for i := range n {
		text := "p" + strconv.Itoa(i)
		if i == 2 {
			text = ""
		}
		x.list = append(x.list, sent{3*i + i%2, i % 3, text})
	}
	return x
}

func told(n api.Net) string {
	s := "next " + strconv.Itoa(n.Next) + ":"
	for _, p := range n.List {
		s += " " + strconv.Itoa(p.Id) + ">" + strconv.Itoa(p.To) + " " + brief(p.B)
	}
	return s
}

func brief(b []byte) string {
	if len(b) > 40 {
		return strconv.Itoa(len(b)) + " bytes"
	}
	return strconv.Quote(string(b))
}

func same(n api.Net, x model) bool {
	return n.Next == x.next && slices.EqualFunc(n.List, x.list, samePacket)
}

func samePacket(p api.Packet, s sent) bool {
	return p.Id == s.id && p.To == s.to && string(p.B) == s.text
}

func check(t *testing.T, what string, got api.Net, want model) {
	t.Helper()
	if !same(got, want) {
		t.Fatalf("%s: %s, not %s", what, told(got), told(want.net()))
	}
}

func checkPacket(t *testing.T, what string, got api.Packet, want sent) {
	t.Helper()
	if !samePacket(got, want) {
		t.Fatalf("%s: packet %d to %d, %s, not %d to %d, %q", what, got.Id, got.To, brief(got.B), want.id, want.to, want.text)
	}
}
