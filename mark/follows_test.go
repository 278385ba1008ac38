package mark_test

import (
	"math"
	"math/rand"
	"testing"

	"lockgate/mark"
)

// busyBehind is P13.2 by its words: it looks for bytes that were high or more, and then for low ones since.
func busyBehind(told []int, high, low int) bool {
	for i := len(told) - 1; i >= 0; i-- {
		if told[i] >= high {
			return !lowIn(told[i+1:], high, low)
		}
	}
	return false
}

func lowIn(told []int, high, low int) bool {
	for _, bytes := range told {
		if bytes <= low && bytes < high {
			return true
		}
	}
	return false
}

// live tells the bytes one behind the other, and holds what is answered behind each against all that were told till then.
func live(t *testing.T, told []int, high, low int) {
	t.Helper()
	busy := false
	for i, bytes := range told {
		want := busyBehind(told[:i+1], high, low)
		next, room := mark.Next(busy, bytes, high, low), mark.Room(busy, bytes, high, low)
		if next != want || room == want {
			t.Fatalf("high %d, low %d, behind %d: busy %v, room %v", high, low, told[:i+1], next, room)
		}
		busy = next
	}
}

// rows calls do with each row of n numbers from 0 up to below.
func rows(n, below int, do func([]int)) {
	row := make([]int, n)
	var from func(int)
	from = func(at int) {
		if at == n {
			do(row)
			return
		}
		for x := range below {
			row[at] = x
			from(at + 1)
		}
	}
	from(0)
}

// P13.2: all rows of five small numbers of bytes, of all small marks.
func TestAllRows(t *testing.T) {
	for high := -1; high <= 6; high++ {
		for low := -2; low <= high; low++ {
			rows(5, 6, func(told []int) { live(t, told, high, low) })
		}
	}
}

// P13.2: rows that are longer, of bytes on each side of each mark.
func TestLongRows(t *testing.T) {
	side := []int{3, 4, 5, 9, 10, 11}
	rows(7, len(side), func(row []int) {
		told := make([]int, len(row))
		for i, x := range row {
			told[i] = side[x]
		}
		live(t, told, 10, 4)
	})
}

// P13.2: however long bytes stay between the marks, it stays what it was.
func TestBetween(t *testing.T) {
	for _, busy := range []bool{false, true} {
		now := busy
		for i := range 10000 {
			bytes := 5 + i%5
			check(t, now, bytes, 10, 4, busy)
			now = mark.Next(now, bytes, 10, 4)
		}
	}
}

// P13.2: bytes that rise and fall by one: busy from the high mark on upwards, till the low mark downwards.
func TestRiseAndFall(t *testing.T) {
	for high := 1; high <= 30; high++ {
		for low := 0; low < high; low++ {
			up, down := turns(high, low, 40)
			if up != high || down != low {
				t.Fatalf("high %d, low %d: busy at %d, free at %d", high, low, up, down)
			}
		}
	}
}

// turns lets the bytes rise to top and fall to 0, and tells where it became busy, and where it was free again.
func turns(high, low, top int) (up, down int) {
	up, down = -1, -1
	busy := false
	for i := range 2*top + 1 {
		bytes := min(i, 2*top-i)
		next := mark.Next(busy, bytes, high, low)
		if next && !busy {
			up = bytes
		}
		if busy && !next {
			down = bytes
		}
		busy = next
	}
	return up, down
}

// P13.2: long random lives, of bytes that rise and fall about the marks, and of any numbers.
func TestRandomLives(t *testing.T) {
	r := rand.New(rand.NewSource(13))
	for range 400 {
		high := r.Intn(60) - 5
		low := high - r.Intn(30)
		live(t, walk(r, 150, high, low), high, low)
	}
	for range 200 {
		high, low := anyInt(r), anyInt(r)
		high, low = max(high, low), min(high, low)
		told := make([]int, 100)
		for i := range told {
			told[i] = anyInt(r)
		}
		live(t, told, high, low)
	}
}

// walk is bytes that go by small steps from about the low mark, and leap to a mark now and then.
func walk(r *rand.Rand, n, high, low int) []int {
	told := make([]int, n)
	bytes := low
	for i := range told {
		bytes += r.Intn(11) - 5
		switch r.Intn(12) {
		case 0:
			bytes = high + r.Intn(3) - 1
		case 1:
			bytes = low + r.Intn(3) - 1
		}
		told[i] = bytes
	}
	return told
}

// anyInt is any number, small ones and those at the ends of all more often.
func anyInt(r *rand.Rand) int {
	switch r.Intn(4) {
	case 0:
		return r.Intn(9) - 4
	case 1:
		return math.MaxInt - r.Intn(3)
	case 2:
		return math.MinInt + r.Intn(3)
	}
	return int(r.Uint64())
}
