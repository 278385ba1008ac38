package mark_test

import (
	"math"
	"testing"

	"lockgate/mark"
)

// check asks both calls: Room is to tell the contrary of Next.
func check(t *testing.T, busy bool, bytes, high, low int, want bool) {
	t.Helper()
	if got := mark.Next(busy, bytes, high, low); got != want {
		t.Fatalf("Next(%v, %d, %d, %d) = %v", busy, bytes, high, low, got)
	}
	if got := mark.Room(busy, bytes, high, low); got == want {
		t.Fatalf("Room(%v, %d, %d, %d) = %v", busy, bytes, high, low, got)
	}
}

// checkBoth asks of it when it was busy and when it wasn't.
func checkBoth(t *testing.T, bytes, high, low int, behindFree, behindBusy bool) {
	t.Helper()
	check(t, false, bytes, high, low, behindFree)
	check(t, true, bytes, high, low, behindBusy)
}

// The chapter's example.
func TestExample(t *testing.T) {
	busy := false
	for i, want := range []bool{false, true, true, false, false} {
		bytes := []int{9, 10, 5, 4, 9}[i]
		check(t, busy, bytes, 10, 4, want)
		busy = mark.Next(busy, bytes, 10, 4)
	}
}

// P13.1: bytes of each part: low or less, between the marks, high or more; each mark itself, and one beside it.
func TestParts(t *testing.T) {
	for _, bytes := range []int{0, 1, 2, 3, 4} {
		checkBoth(t, bytes, 10, 4, false, false)
	}
	for _, bytes := range []int{5, 6, 7, 8, 9} {
		checkBoth(t, bytes, 10, 4, false, true)
	}
	for _, bytes := range []int{10, 11, 12, 100, 1 << 20, 1 << 40} {
		checkBoth(t, bytes, 10, 4, true, true)
	}
}

// P13.1: all small bytes and marks, held against a line of what is told at each number of bytes.
func TestSmallNumbers(t *testing.T) {
	const least, most = -4, 12
	for high := least; high <= most; high++ {
		for low := least; low <= high; low++ {
			lineFree, lineBusy := line(least, most, high), line(least, most, min(high, low+1))
			for bytes := least; bytes <= most; bytes++ {
				checkBoth(t, bytes, high, low, lineFree[bytes-least], lineBusy[bytes-least])
			}
		}
	}
}

// line tells of each number from least to most whether it is busy there: from one number on.
func line(least, most, from int) []bool {
	l := make([]bool, most-least+1)
	for i := from - least; i < len(l); i++ {
		l[i] = true
	}
	return l
}

// P13.1: both marks are the same: bytes that are both high and low are busy, one byte less isn't, whatever was.
func TestOneMark(t *testing.T) {
	for _, m := range []int{math.MinInt + 1, -1, 0, 1, 7, 1 << 20, 1 << 31, 1 << 32, math.MaxInt - 1} {
		checkBoth(t, m-1, m, m, false, false)
		checkBoth(t, m, m, m, true, true)
		checkBoth(t, m+1, m, m, true, true)
	}
}

// P13.1: marks one beside the other: nothing lies between, so what was doesn't matter.
func TestMarksBesideEachOther(t *testing.T) {
	for _, low := range []int{math.MinInt, -1, 0, 1, 7, 1 << 31, math.MaxInt - 1} {
		checkBoth(t, low, low+1, low, false, false)
		checkBoth(t, low+1, low+1, low, true, true)
	}
}

// P13.1: marks at nought: a low of 0 is reached when there are no bytes, a high of 0 always.
func TestNought(t *testing.T) {
	checkBoth(t, 0, 10, 0, false, false)
	checkBoth(t, 1, 10, 0, false, true)
	checkBoth(t, 10, 10, 0, true, true)
	checkBoth(t, 0, 0, 0, true, true)
	checkBoth(t, 1, 0, 0, true, true)
	checkBoth(t, 0, 0, -1, true, true)
	checkBoth(t, 0, 10, -1, false, true)
}

// P13.1: numbers so far apart that what lies between two of them is beyond an int.
func TestFarNumbers(t *testing.T) {
	const least, most = math.MinInt, math.MaxInt
	checkBoth(t, 0, most, least, false, true)
	checkBoth(t, -1, most, least, false, true)
	checkBoth(t, least+1, most, least, false, true)
	checkBoth(t, most-1, most, least, false, true)
	checkBoth(t, least, most, least, false, false)
	checkBoth(t, most, most, least, true, true)
	checkBoth(t, least, most, most, false, false)
	checkBoth(t, most-1, most, most, false, false)
	checkBoth(t, most, most, most, true, true)
	checkBoth(t, least, least, least, true, true)
	checkBoth(t, most, least, least, true, true)
	checkBoth(t, most, 2, -2, true, true)
	checkBoth(t, least, 2, -2, false, false)
}

// What comes out hangs on what goes in alone: of calls asked anew, others between, each answers as at first.
func TestTwice(t *testing.T) {
	for range 3 {
		check(t, true, 7, 10, 4, true)
		check(t, false, 7, 10, 4, false)
		check(t, false, 12, 10, 4, true)
		check(t, true, 2, 10, 4, false)
		check(t, false, 7, 6, 4, true)
		check(t, true, 7, 10, 8, false)
	}
}

// Of a low above the high nothing is promised but that the calls end and don't panic.
func TestWrong(t *testing.T) {
	far := []int{math.MinInt, -1, 0, 1, 4, 10, math.MaxInt}
	for _, high := range far {
		for _, low := range far {
			for _, bytes := range far {
				for _, busy := range []bool{false, true} {
					mark.Next(busy, bytes, high, low)
					mark.Room(busy, bytes, high, low)
				}
			}
		}
	}
}
