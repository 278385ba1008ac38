package ver_test

import (
	"math"
	"testing"

	"lockgate/api"
	"lockgate/ver"
)

// counts are the edges of what an epoch and a number may be, and some between.
func counts() []int {
	return []int{0, 1, 2, 9, 10, 4096, 1<<31 - 1, 1 << 31, 1 << 32, api.MaxCount - 1, api.MaxCount}
}

// rising are all versions of those counts, each ahead of all behind it.
func rising() []api.Ver {
	var l []api.Ver
	for _, epoch := range counts() {
		for _, num := range counts() {
			l = append(l, api.Ver(complex(float64(epoch), float64(num))))
		}
	}
	return l
}

func parts(re, im float64) api.Ver { return api.Ver(complex(re, im)) }

// P1.1: Make, Epoch, Num.
func TestParts(t *testing.T) {
	for _, epoch := range counts() {
		for _, num := range counts() {
			v := ver.Make(epoch, num)
			if real(v) != float64(epoch) || imag(v) != float64(num) {
				t.Errorf("Make(%d, %d) = %v", epoch, num, v)
			}
			if ver.Epoch(v) != epoch || ver.Num(v) != num {
				t.Errorf("of Make(%d, %d): epoch %d, number %d", epoch, num, ver.Epoch(v), ver.Num(v))
			}
		}
	}
}

// P1.1: -0 is 0, wherever a version is handed in.
func TestNegativeZero(t *testing.T) {
	minus := math.Copysign(0, -1)
	for _, v := range []api.Ver{parts(minus, 0), parts(0, minus), parts(minus, minus)} {
		if !ver.Right(v) {
			t.Errorf("%v isn't right", v)
		}
		if ver.Epoch(v) != 0 || ver.Num(v) != 0 {
			t.Errorf("%v: epoch %d, number %d", v, ver.Epoch(v), ver.Num(v))
		}
		if ver.Ahead(v, 0) || ver.Ahead(0, v) || ver.Later(v, 0) != 0 || ver.Later(0, v) != 0 {
			t.Errorf("%v isn't the same as 0", v)
		}
		if !ver.Ahead(v, ver.Make(0, 1)) || !ver.Ahead(v, ver.Make(1, 0)) {
			t.Errorf("%v isn't ahead of what is behind 0", v)
		}
		if n := ver.Next(v, 0); n != ver.Make(0, 1) || ver.Epoch(n) != 0 || ver.Num(n) != 1 {
			t.Errorf("Next(%v, 0) = %v", v, n)
		}
		if n := ver.Next(v, 4); n != ver.Make(4, 1) {
			t.Errorf("Next(%v, 4) = %v", v, n)
		}
	}
}

// P1.1: Right, of versions.
func TestRight(t *testing.T) {
	for _, v := range rising() {
		if !ver.Right(v) {
			t.Errorf("%v isn't right", v)
		}
	}
}

// wrongParts are no parts of a version.
func wrongParts() []float64 {
	return []float64{
		-1, -2, -api.MaxCount, -0.5, -math.SmallestNonzeroFloat64, -math.MaxFloat64, -(1 << 63),
		0.5, 1.5, math.SmallestNonzeroFloat64, math.Nextafter(1, 0), math.Nextafter(1, 2),
		api.MaxCount - 0.5, api.MaxCount + 0.5, math.Nextafter(api.MaxCount, 0), math.Nextafter(api.MaxCount, math.Inf(1)),
		api.MaxCount + 1, api.MaxCount * 2, 1 << 63, 1 << 64, math.MaxFloat64,
		math.NaN(), math.Inf(1), math.Inf(-1),
	}
}

// P1.1: Right, of numbers that are no versions: a wrong part is enough, whatever the other one is.
func TestWrong(t *testing.T) {
	for _, wrong := range wrongParts() {
		for _, right := range counts() {
			if v := parts(wrong, float64(right)); ver.Right(v) {
				t.Errorf("%v is right", v)
			}
			if v := parts(float64(right), wrong); ver.Right(v) {
				t.Errorf("%v is right", v)
			}
		}
		for _, other := range wrongParts() {
			if v := parts(wrong, other); ver.Right(v) {
				t.Errorf("%v is right", v)
			}
		}
	}
}

// P1.1, P1.3: of two versions the one of the less epoch is ahead, then that of the less number; just one of three holds.
func TestOrder(t *testing.T) {
	l := rising()
	for i, a := range l {
		for j, b := range l {
			if got := ver.Ahead(a, b); got != (i < j) {
				t.Errorf("Ahead(%v, %v) = %v", a, b, got)
			}
			if got, want := ver.Later(a, b), l[max(i, j)]; got != want {
				t.Errorf("Later(%v, %v) = %v", a, b, got)
			}
			if n := holding(ver.Ahead(a, b), ver.Ahead(b, a), a == b); n != 1 {
				t.Errorf("of %v and %v %d of three hold", a, b, n)
			}
		}
	}
}

func holding(all ...bool) int {
	n := 0
	for _, is := range all {
		if is {
			n++
		}
	}
	return n
}

// P1.3: what is ahead of what is ahead is ahead. Held against nothing but Ahead itself.
func TestAheadOfAhead(t *testing.T) {
	l := rising()
	for _, a := range l {
		for _, b := range l {
			if !ver.Ahead(a, b) {
				continue
			}
			for _, c := range l {
				if ver.Ahead(b, c) && !ver.Ahead(a, c) {
					t.Fatalf("%v is ahead of %v, that of %v", a, b, c)
				}
			}
		}
	}
}

// P1.2, P1.3: Next's epoch and number, at all epochs from v's on; v is ahead of it.
func TestNext(t *testing.T) {
	for _, v := range rising() {
		if ver.Num(v) == api.MaxCount {
			continue
		}
		for _, epoch := range counts() {
			if epoch < ver.Epoch(v) {
				continue
			}
			n := ver.Next(v, epoch)
			if real(n) != float64(epoch) || imag(n) != imag(v)+1 || !ver.Right(n) {
				t.Errorf("Next(%v, %d) = %v", v, epoch, n)
			}
			if !ver.Ahead(v, n) || ver.Ahead(n, v) || ver.Later(v, n) != n {
				t.Errorf("%v isn't ahead of Next(%v, %d)", v, v, epoch)
			}
		}
	}
}

// Nothing's version is 0, and is ahead of all others.
func TestNothing(t *testing.T) {
	if ver.Make(0, 0) != 0 || !ver.Right(0) {
		t.Error("Make(0, 0) isn't nothing's version")
	}
	for _, v := range rising()[1:] {
		if !ver.Ahead(0, v) || ver.Ahead(v, 0) {
			t.Errorf("0 isn't ahead of %v", v)
		}
	}
}

// The chapter's examples.
func TestExamples(t *testing.T) {
	v := ver.Make(2, 5)
	if v != 2+5i || ver.Epoch(v) != 2 || ver.Num(v) != 5 {
		t.Errorf("Make(2, 5) = %v", v)
	}
	if !ver.Ahead(v, ver.Make(3, 0)) || ver.Ahead(ver.Make(3, 0), v) {
		t.Error("Make(2, 5) isn't ahead of Make(3, 0)")
	}
	if n := ver.Next(v, 3); n != ver.Make(3, 6) {
		t.Errorf("Next(Make(2, 5), 3) = %v", n)
	}
}

// No call panics, at numbers that are no versions neither (what it answers then, nobody says).
func TestNoPanic(t *testing.T) {
	for _, re := range wrongParts() {
		for _, im := range wrongParts() {
			v := parts(re, im)
			ver.Epoch(v)
			ver.Num(v)
			for _, n := range []int{math.MinInt, -1, 0, math.MaxInt} {
				ver.Next(v, n)
				ver.Make(n, n)
			}
			ver.Ahead(v, parts(im, re))
			ver.Later(v, parts(im, re))
		}
	}
}
