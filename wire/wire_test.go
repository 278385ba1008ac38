package wire_test

import (
	"bytes"
	"encoding/binary"
	"math"
	"strings"
	"testing"

	"lockgate/api"
	"lockgate/ver"
	"lockgate/wire"
)

// spelt are numbers and their bytes, worked out apart from the program.
func spelt() map[int][]byte {
	return map[int][]byte{
		0:             {0},
		-1:            {1},
		1:             {2},
		-2:            {3},
		2:             {4},
		63:            {126},
		-64:           {127},
		64:            {128, 1},
		-65:           {129, 1},
		65:            {130, 1},
		100:           {200, 1},
		8191:          {254, 127},
		-8192:         {255, 127},
		8192:          {128, 128, 1},
		-8193:         {129, 128, 1},
		api.MaxText:   {128, 128, 8},
		api.MaxCount:  {128, 128, 128, 128, 128, 64},
		1 << 61:       {128, 128, 128, 128, 128, 128, 128, 128, 64},
		1<<62 - 1:     {254, 255, 255, 255, 255, 255, 255, 255, 127},
		-1 << 62:      {255, 255, 255, 255, 255, 255, 255, 255, 127},
		1 << 62:       {128, 128, 128, 128, 128, 128, 128, 128, 128, 1},
		math.MaxInt64: {254, 255, 255, 255, 255, 255, 255, 255, 255, 1},
		math.MinInt64: {255, 255, 255, 255, 255, 255, 255, 255, 255, 1},
	}
}

// numbers are those of spelt, and all around the powers of two, on both sides of 0.
func numbers() []int {
	var l []int
	for n := range spelt() {
		l = append(l, n)
	}
	for n := range 300 {
		l = append(l, n, -n)
	}
	for bit := range 63 {
		for by := -2; by <= 2; by++ {
			l = append(l, 1<<bit+by, -1<<bit+by)
		}
	}
	return l
}

func texts() []string {
	all := make([]byte, 256)
	for i := range all {
		all[i] = byte(i)
	}
	return []string{
		"", "a", "ab", "\x00", "\x00\x00", "\x80", "\xff\xfe", "é", string(all),
		strings.Repeat("x", 63), strings.Repeat("x", 64), strings.Repeat("\xff", 8191), strings.Repeat("\x00", 8192),
		strings.Repeat("y", api.MaxText-1), strings.Repeat("z", api.MaxText),
	}
}

func versions() []api.Ver {
	var l []api.Ver
	counts := []int{0, 1, 63, 64, 8192, 1<<31 - 1, 1 << 32, api.MaxCount - 1, api.MaxCount}
	for _, epoch := range counts {
		for _, num := range counts {
			l = append(l, ver.Make(epoch, num))
		}
	}
	return l
}

// item is a thing, its bytes, and its two calls with the type taken away.
type item struct {
	name  string
	thing any
	write func(out []byte) []byte
	read  func(b []byte, at int) (any, int, bool)
}

func readInt(b []byte, at int) (any, int, bool)  { n, to, ok := wire.GetInt(b, at); return n, to, ok }
func readBool(b []byte, at int) (any, int, bool) { n, to, ok := wire.GetBool(b, at); return n, to, ok }
func readText(b []byte, at int) (any, int, bool) { n, to, ok := wire.GetText(b, at); return n, to, ok }
func readVer(b []byte, at int) (any, int, bool)  { n, to, ok := wire.GetVer(b, at); return n, to, ok }

func items() []item {
	var l []item
	for _, n := range numbers() {
		l = append(l, item{"Int", n, func(out []byte) []byte { return wire.Int(out, n) }, readInt})
	}
	for _, is := range []bool{false, true} {
		l = append(l, item{"Bool", is, func(out []byte) []byte { return wire.Bool(out, is) }, readBool})
	}
	for _, s := range texts() {
		l = append(l, item{"Text", s, func(out []byte) []byte { return wire.Text(out, s) }, readText})
	}
	for _, v := range versions() {
		l = append(l, item{"Ver", v, func(out []byte) []byte { return wire.Ver(out, v) }, readVer})
	}
	return l
}

// small keeps what a failing test tells short.
func small(b []byte) []byte { return b[:min(len(b), 24)] }

// noughts tells whether a reading's answer is that nothing stands there.
func noughts(thing any, to int, ok bool) bool {
	switch x := thing.(type) {
	case int:
		return x == 0 && to == 0 && !ok
	case bool:
		return !x && to == 0 && !ok
	case string:
		return x == "" && to == 0 && !ok
	case api.Ver:
		return x == 0 && to == 0 && !ok
	}
	return false
}

// P3.1, P3.2: the bytes of numbers.
func TestIntBytes(t *testing.T) {
	for n, want := range spelt() {
		if got := wire.Int(nil, n); !bytes.Equal(got, want) {
			t.Errorf("Int(nil, %d) = %v, not %v", n, got, want)
		}
		if m, to, ok := wire.GetInt(want, 0); m != n || to != len(want) || !ok {
			t.Errorf("GetInt(%v, 0) = %d, %d, %v", want, m, to, ok)
		}
	}
	// The library's signed numbers are of the same bytes.
	for _, n := range numbers() {
		want := binary.AppendVarint(nil, int64(n))
		if got := wire.Int(nil, n); !bytes.Equal(got, want) {
			t.Errorf("Int(nil, %d) = %v, not %v", n, got, want)
		}
	}
}

// P3.1: the bytes of truths, texts and versions.
func TestOtherBytes(t *testing.T) {
	if b := wire.Bool(nil, false); !bytes.Equal(b, []byte{0}) {
		t.Errorf("Bool(nil, false) = %v", b)
	}
	if b := wire.Bool(nil, true); !bytes.Equal(b, []byte{1}) {
		t.Errorf("Bool(nil, true) = %v", b)
	}
	if b := wire.Text(nil, "ab"); !bytes.Equal(b, []byte{4, 97, 98}) {
		t.Errorf(`Text(nil, "ab") = %v`, b)
	}
	for _, s := range texts() {
		want := append(binary.AppendVarint(nil, int64(len(s))), s...)
		if b := wire.Text(nil, s); !bytes.Equal(b, want) {
			t.Errorf("of a text of %d bytes: %v", len(s), small(b))
		}
	}
	if b := wire.Ver(nil, ver.Make(3, 64)); !bytes.Equal(b, []byte{6, 128, 1}) {
		t.Errorf("Ver(nil, 3, 64) = %v", b)
	}
	if b := wire.Ver(nil, api.Ver(complex(math.Copysign(0, -1), math.Copysign(0, -1)))); !bytes.Equal(b, []byte{0, 0}) {
		t.Errorf("Ver(nil, -0) = %v", b)
	}
	for _, v := range versions() {
		want := binary.AppendVarint(binary.AppendVarint(nil, int64(real(v))), int64(imag(v)))
		if b := wire.Ver(nil, v); !bytes.Equal(b, want) {
			t.Errorf("Ver(nil, %v) = %v, not %v", v, b, want)
		}
	}
}

// P3.1: out stands ahead of the bytes.
func TestOutAhead(t *testing.T) {
	for _, x := range items() {
		alone := x.write(nil)
		for _, out := range [][]byte{{}, {0}, {128}, {255, 1, 7, 128}} {
			want := append(bytes.Clone(out), alone...)
			if got := x.write(bytes.Clone(out)); !bytes.Equal(got, want) {
				t.Errorf("%s(%v, ..) = %v", x.name, out, small(got))
			}
		}
	}
}

// P3.2, P3.3: what was written is read as it was, wherever it stands and whatever stands around it.
func TestReadAsWritten(t *testing.T) {
	for _, x := range items() {
		for _, ahead := range [][]byte{{}, {0}, {128}, {255, 255, 255}} {
			for _, behind := range [][]byte{{}, {0}, {1}, {128, 0}, {255, 255, 255, 255, 255, 255, 255, 255, 255, 255}} {
				b := append(x.write(bytes.Clone(ahead)), behind...)
				thing, to, ok := x.read(b, len(ahead))
				if thing != x.thing || to != len(b)-len(behind) || !ok {
					t.Fatalf("%s of %v at %d: place %d, %v", x.name, small(b), len(ahead), to, ok)
				}
			}
		}
	}
}

// P3.2, P3.3: what is cut short stands nowhere: none's bytes begin another one's.
func TestCutShort(t *testing.T) {
	for _, x := range items() {
		b := x.write(nil)
		for n := range b {
			if n > 20 && n < len(b)-3 {
				continue
			}
			// What is cut off lies behind the end, and isn't looked at.
			if thing, to, ok := x.read(b[:n], 0); !noughts(thing, to, ok) {
				t.Fatalf("%s of %v, cut to %d: %d, %v", x.name, small(b), n, to, ok)
			}
		}
	}
}

// P3.3: of two of a kind that aren't the same, neither one's bytes begin the other one's.
func TestNoneBeginsAnother(t *testing.T) {
	kinds := map[string][][]byte{}
	for _, x := range items() {
		kinds[x.name] = append(kinds[x.name], x.write(nil))
	}
	for name, all := range kinds {
		for _, a := range all {
			for _, b := range all {
				if bytes.HasPrefix(b, a) && !bytes.Equal(a, b) {
					t.Fatalf("%s: %v begins %v", name, small(a), small(b))
				}
			}
		}
	}
}

// eachShort hands over all rows of at most three bytes of those where groups and their signs change.
func eachShort(each func(b []byte)) {
	edges := []byte{0, 1, 2, 3, 4, 5, 6, 8, 63, 64, 97, 126, 127, 128, 129, 130, 192, 254, 255}
	each([]byte{})
	for a := range 256 {
		each([]byte{byte(a)})
		for b := range 256 {
			each([]byte{byte(a), byte(b)})
			for _, c := range edges {
				each([]byte{byte(a), byte(b), c})
			}
		}
	}
}

// P3.2, P3.3: whatever is read was written in the one way there is, and beside a false stand noughts.
func TestOneWay(t *testing.T) {
	again := map[string]func(thing any) []byte{
		"Int":  func(x any) []byte { return wire.Int(nil, x.(int)) },
		"Bool": func(x any) []byte { return wire.Bool(nil, x.(bool)) },
		"Text": func(x any) []byte { return wire.Text(nil, x.(string)) },
		"Ver":  func(x any) []byte { return wire.Ver(nil, x.(api.Ver)) },
	}
	reads := map[string]func(b []byte, at int) (any, int, bool){"Int": readInt, "Bool": readBool, "Text": readText, "Ver": readVer}
	for name, read := range reads {
		eachShort(func(b []byte) {
			thing, to, ok := read(b, 0)
			if !ok && !noughts(thing, to, ok) {
				t.Fatalf("%s of %v: not there, but %v, %d", name, b, thing, to)
			}
			if ok && !bytes.Equal(again[name](thing), b[:to]) {
				t.Fatalf("%s of %v: %v, %d, which is written otherwise", name, b, thing, to)
			}
		})
	}
}

// P3.2: of the numbers of one and two bytes all are read, and the longer ways of the same are none.
func TestShortNumbers(t *testing.T) {
	for a := range 256 {
		_, to, ok := wire.GetInt([]byte{byte(a)}, 0)
		if ok != (a < 128) || ok && to != 1 {
			t.Errorf("GetInt(%d) = %d, %v", a, to, ok)
		}
		for b := range 256 {
			_, to, ok := wire.GetInt([]byte{byte(a), byte(b)}, 0)
			if want := a < 128 || b > 0 && b < 128; ok != want {
				t.Errorf("GetInt(%d %d) = %d, %v", a, b, to, ok)
			}
		}
	}
}

// P3.2: bytes that are no number.
func TestNoNumber(t *testing.T) {
	ff := func(n int, behind ...byte) []byte { return append(bytes.Repeat([]byte{255}, n), behind...) }
	full := func(n int, behind ...byte) []byte { return append(bytes.Repeat([]byte{128}, n), behind...) }
	for _, b := range [][]byte{
		nil, {}, {128}, {255}, {128, 0}, {255, 0}, {129, 128, 0}, {128, 128, 128},
		full(8, 0), full(9), full(9, 0), full(9, 2), full(9, 3), full(9, 127), full(9, 128), full(9, 129), full(9, 129, 0), full(9, 129, 1),
		full(10, 0), full(10, 1), full(64), full(64, 1), full(1000, 1),
		ff(9), ff(9, 0), ff(9, 2), ff(9, 3), ff(9, 65), ff(10, 0), ff(10, 1), ff(100),
	} {
		if n, to, ok := wire.GetInt(b, 0); n != 0 || to != 0 || ok {
			t.Errorf("GetInt(%v, 0) = %d, %d, %v", b, n, to, ok)
		}
	}
}

// P3.2: a truth is 0 or 1.
func TestTruths(t *testing.T) {
	for a := range 256 {
		is, to, ok := wire.GetBool([]byte{byte(a)}, 0)
		if a <= 1 && (is != (a == 1) || to != 1 || !ok) || a > 1 && !noughts(is, to, ok) {
			t.Errorf("GetBool(%d) = %v, %d, %v", a, is, to, ok)
		}
	}
}

// P3.2: texts of more than MaxText bytes, of fewer than none, and of more than there are.
func TestNoText(t *testing.T) {
	long := make([]byte, api.MaxText+10)
	for _, n := range []int{-1, -2, -64, math.MinInt, api.MaxText + 1, api.MaxText + 2, 1 << 32, math.MaxInt - 1, math.MaxInt} {
		b := append(wire.Int(nil, n), long...)
		if s, to, ok := wire.GetText(b, 0); !noughts(s, to, ok) {
			t.Errorf("GetText of %d bytes: %d, %d, %v", n, len(s), to, ok)
		}
	}
	for _, b := range [][]byte{nil, {128}, {128, 0}, {2}, {4, 97}, {1, 97}} {
		if s, to, ok := wire.GetText(b, 0); !noughts(s, to, ok) {
			t.Errorf("GetText(%v, 0) = %q, %d, %v", b, s, to, ok)
		}
	}
	if s, to, ok := wire.GetText([]byte{9, 4, 97, 98, 99}, 1); s != "ab" || to != 4 || !ok {
		t.Errorf("GetText at 1 = %q, %d, %v", s, to, ok)
	}
	// The place counts: that many bytes are in b, but not behind the place.
	if s, to, ok := wire.GetText([]byte{97, 97, 97, 8, 97}, 3); !noughts(s, to, ok) {
		t.Errorf("GetText at 3 = %q, %d, %v", s, to, ok)
	}
}

// P3.2: an epoch and a number are from 0 to MaxCount.
func TestNoVersion(t *testing.T) {
	wrong := []int{-1, -64, math.MinInt, api.MaxCount + 1, 1 << 41, 1<<53 + 1, math.MaxInt}
	right := []int{0, 1, api.MaxCount}
	for _, w := range wrong {
		for _, r := range append(right, wrong...) {
			for _, b := range [][]byte{wire.Int(wire.Int(nil, w), r), wire.Int(wire.Int(nil, r), w)} {
				if v, to, ok := wire.GetVer(b, 0); !noughts(v, to, ok) {
					t.Errorf("GetVer(%v, 0) = %v, %d, %v", b, v, to, ok)
				}
			}
		}
	}
	for _, b := range [][]byte{nil, {}, {6}, {128}, {6, 128}, {6, 128, 0}, {134, 0, 2}} {
		if v, to, ok := wire.GetVer(b, 0); !noughts(v, to, ok) {
			t.Errorf("GetVer(%v, 0) = %v, %d, %v", b, v, to, ok)
		}
	}
}

// P3.2: nothing stands at a place behind the end; nor, though nothing is promised of it, at one below 0.
func TestPlacesOutside(t *testing.T) {
	for _, b := range [][]byte{nil, {}, {0}, {1, 1}, make([]byte, 40)} {
		for _, at := range []int{len(b), len(b) + 1, len(b) + 1000, math.MaxInt32, math.MaxInt - 1, math.MaxInt, -1, -2, math.MinInt} {
			for _, read := range []func(b []byte, at int) (any, int, bool){readInt, readBool, readText, readVer} {
				if thing, to, ok := read(b, at); !noughts(thing, to, ok) {
					t.Errorf("of %v at %d: %v, %d, %v", b, at, thing, to, ok)
				}
			}
		}
	}
}

// P3.4: what is written changes nothing of out, with or without room behind its end.
func TestOutStays(t *testing.T) {
	for _, x := range items() {
		for _, room := range []int{0, 1, 5, api.MaxText + 100} {
			full := make([]byte, 4, 4+room)
			copy(full, []byte{9, 255, 128, 3})
			got := x.write(full[:3])
			if !bytes.Equal(full[:3], []byte{9, 255, 128}) || !bytes.Equal(got[:3], full[:3]) {
				t.Fatalf("%s changed what was handed in: %v", x.name, full[:3])
			}
		}
	}
}

// P3.4: what is read from stays, and what is read is memory of its own.
func TestReadIsNew(t *testing.T) {
	for _, x := range items() {
		b := append(x.write([]byte{7}), 7)
		before := bytes.Clone(b)
		thing, _, ok := x.read(b, 1)
		if !ok || !bytes.Equal(b, before) {
			t.Fatalf("reading a %s changed what was handed in: %v", x.name, small(b))
		}
		for i := range b {
			b[i] = ^b[i]
		}
		if thing != x.thing {
			t.Fatalf("a %s that was read changed with the bytes", x.name)
		}
	}
}

// P1: none panics and all end, of what is no version, and of texts longer than promised, too.
func TestNonePanics(t *testing.T) {
	odd := []float64{math.NaN(), math.Inf(1), math.Inf(-1), -1, 0.5, math.MaxFloat64}
	for _, x := range odd {
		for _, y := range odd {
			wire.Ver(nil, api.Ver(complex(x, y)))
		}
	}
	wire.Text(nil, strings.Repeat("x", 3*api.MaxText))
}
