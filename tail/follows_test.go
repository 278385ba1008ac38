package tail_test

import (
	"math/rand"
	"slices"
	"strconv"
	"testing"

	"lockgate/api"
	"lockgate/tail"
)

// life is a tail, all that was pushed to it, and what the store is told to have.
type life struct {
	tail  api.Tail
	all   []api.Entry
	done  []api.Item
	store map[string]api.Ver
}

func newLife() *life { return &life{store: map[string]api.Ver{}} }

// next is a version behind the tail's last one, now and then of a later epoch with a lesser number.
func (l *life) next(r *rand.Rand) api.Ver {
	if r.Intn(6) == 0 {
		return version(int(real(l.tail.Last))+1, r.Intn(4))
	}
	return l.tail.Last + version(0, 1+r.Intn(2))
}

func (l *life) push(t *testing.T, e api.Entry) {
	t.Helper()
	checkPush(t, l.tail, e, true)
	l.tail, _ = tail.Push(l.tail, e)
	l.all = append(l.all, e)
}

// flush is what becomes of a batch that the store has taken: the items of its keys are told behind all others.
func (l *life) flush(batch []api.Entry) {
	for _, e := range batch {
		l.done = append(l.done, item(e.Key, e.Ver))
		l.store[e.Key] = e.Ver
	}
}

// lift lifts the tail to where its floor may rise, and holds what is gone against what the store has.
func (l *life) lift(t *testing.T, upto api.Ver) {
	t.Helper()
	was := l.tail
	floor := tail.Rise(was, upto, l.done)
	l.tail = tail.Lift(was, floor)
	if isAhead(l.tail.Floor, was.Floor) || l.tail.Last != was.Last {
		t.Fatalf("lift to %s of %s: %s", toldVer(floor), told(was), told(l.tail))
	}
	gone := len(was.Log) - len(l.tail.Log)
	checkEntries(t, "what is left", l.tail.Log, was.Log[gone:])
	for _, e := range was.Log[:gone] {
		if e.Write && isAhead(l.store[e.Key], e.Ver) {
			t.Fatalf("%s is gone, and the store has %s", toldEntry(e), toldVer(l.store[e.Key]))
		}
		if isAhead(upto, e.Ver) {
			t.Fatalf("%s is gone, behind %s", toldEntry(e), toldVer(upto))
		}
	}
}

// checkAll holds what the tail has against all that was pushed, and against its floor.
func (l *life) checkAll(t *testing.T) {
	t.Helper()
	at := 0
	for at < len(l.all) && !isAhead(l.tail.Floor, l.all[at].Ver) {
		at++
	}
	checkEntries(t, "the tail", l.tail.Log, l.all[at:])
	bytes := 0
	for _, e := range l.tail.Log {
		if e.Write {
			bytes += len(e.Key) + len(e.Val) + 1
		}
	}
	if got := tail.Bytes(l.tail); got != bytes {
		t.Fatalf("%s: %d, not %d", told(l.tail), got, bytes)
	}
}

func someEntry(r *rand.Rand, v api.Ver, keys int) api.Entry {
	es := shapes(v)
	e := es[r.Intn(len(es))]
	e.Key = "k" + strconv.Itoa(r.Intn(keys))
	return e
}

// someUpto is the floor, an entry's version, one between, or the last.
func (l *life) someUpto(r *rand.Rand) api.Ver {
	if n := len(l.tail.Log); n > 0 && r.Intn(3) > 0 {
		return l.tail.Log[r.Intn(n)].Ver
	}
	return []api.Ver{l.tail.Floor, l.tail.Last, l.tail.Last + version(0, 5)}[r.Intn(3)]
}

// P15.3: in long lives of pushes, flushes and lifts no write is gone that the store doesn't have, or something later; and all the rest is there.
func TestLives(t *testing.T) {
	for seed := range 300 {
		r := rand.New(rand.NewSource(int64(seed)))
		keys, l := 1+r.Intn(6), newLife()
		for range 80 {
			upto := l.someUpto(r)
			switch r.Intn(5) {
			case 0:
				most := r.Intn(5) - 1
				checkBatch(t, l.tail, upto, l.done, most)
				l.flush(tail.Batch(l.tail, upto, l.done, most))
			case 1:
				checkRise(t, l.tail, upto, l.done, riseBy(l.tail, upto, l.done))
				l.lift(t, upto)
			default:
				l.push(t, someEntry(r, l.next(r), keys))
			}
			l.checkAll(t)
			checkValue(t, l.tail, "k0")
		}
	}
}

// P15.3: a batch that is flushed settles all writes of its keys up to upto: none of them is in a batch again, and the floor may rise over them.
func TestFlushedSettles(t *testing.T) {
	for seed := range 300 {
		r := rand.New(rand.NewSource(int64(1000 + seed)))
		keys, l := 1+r.Intn(6), newLife()
		for range 5 + r.Intn(30) {
			l.push(t, someEntry(r, l.next(r), keys))
		}
		upto := l.someUpto(r)
		l.flush(tail.Batch(l.tail, upto, l.done, 1+r.Intn(3)))
		for _, e := range l.tail.Log {
			if _, ok := l.store[e.Key]; ok && !isAhead(upto, e.Ver) && !settledBy(e, l.done) {
				t.Fatalf("%s isn't settled, of %s, %s flushed", toldEntry(e), told(l.tail), toldItems(l.done))
			}
		}
		for _, e := range tail.Batch(l.tail, upto, l.done, len(l.all)) {
			if _, ok := l.store[e.Key]; ok {
				t.Fatalf("%s once more, of %s, %s flushed", toldEntry(e), told(l.tail), toldItems(l.done))
			}
		}
	}
}

// P15.3: batch upon batch, all is flushed, each key by its last write, and the floor rises over all of it.
func TestAllIsFlushed(t *testing.T) {
	for seed := range 200 {
		r := rand.New(rand.NewSource(int64(2000 + seed)))
		keys, most, l := 1+r.Intn(9), 1+r.Intn(3), newLife()
		for range 1 + r.Intn(40) {
			l.push(t, someEntry(r, l.next(r), keys))
		}
		last := map[string]api.Ver{}
		for _, e := range l.all {
			if e.Write {
				last[e.Key] = e.Ver
			}
		}
		for steps := 0; ; steps++ {
			batch := tail.Batch(l.tail, l.tail.Last, l.done, most)
			if len(batch) == 0 {
				break
			}
			if steps == keys {
				t.Fatalf("no end of batches: %s", toldEntries(batch))
			}
			l.flush(batch)
			l.lift(t, l.tail.Last)
		}
		for key, v := range last {
			if l.store[key] != v {
				t.Fatalf("%s: %s, not %s", key, toldVer(l.store[key]), toldVer(v))
			}
		}
		if l.lift(t, l.tail.Last); len(l.tail.Log) > 0 || l.tail.Floor != l.tail.Last {
			t.Fatalf("left: %s", told(l.tail))
		}
	}
}

// P15.3: right tails stay right, whatever is pushed and lifted, and wherever to.
func TestRightStaysRight(t *testing.T) {
	vs := append(points(), places()...)
	for seed := range 300 {
		r := rand.New(rand.NewSource(int64(3000 + seed)))
		l := api.Tail{}
		for range 20 {
			v := vs[r.Intn(len(vs))]
			if r.Intn(4) == 0 {
				l = tail.Lift(l, v)
			} else {
				l, _ = tail.Push(l, someEntry(r, v, 3))
			}
			rising := slices.IsSortedFunc(l.Log, func(a, b api.Entry) int {
				if isAhead(a.Ver, b.Ver) {
					return -1
				}
				return 1
			})
			if n := len(l.Log); !rising || isAhead(l.Last, l.Floor) || n > 0 && (!isAhead(l.Floor, l.Log[0].Ver) || l.Log[n-1].Ver != l.Last) {
				t.Fatalf("%s", told(l))
			}
		}
	}
}
