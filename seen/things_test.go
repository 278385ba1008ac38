package seen_test

import (
	"maps"
	"slices"
	"strconv"
	"testing"

	"lockgate/api"
	"lockgate/seen"
)

// model is a list as a map of what each session has; none is ever changed.
type model map[int]api.Seen

// like is the model of a list.
func like(l []api.Seen) model {
	m := model{}
	for _, s := range l {
		m[s.Sess] = s
	}
	return m
}

func (m model) put(s api.Seen) model {
	if was, ok := m[s.Sess]; ok && was.Num >= s.Num {
		return m
	}
	next := model{}
	maps.Copy(next, m)
	next[s.Sess] = s
	return next
}

func (m model) verdict(sess, num int) int {
	s, ok := m[sess]
	if !ok || num > s.Num {
		return 0
	}
	if num < s.Num {
		return 2
	}
	return 1
}

// list is what the model has, by the sessions' numbers.
func (m model) list() []api.Seen {
	var l []api.Seen
	for _, sess := range slices.Sorted(maps.Keys(m)) {
		l = append(l, m[sess])
	}
	return l
}

func version(epoch, num int) api.Ver { return api.Ver(complex(float64(epoch), float64(num))) }

// last is a call that differs from those of other sessions and numbers in each field.
func last(sess, num int) api.Seen {
	return api.Seen{
		Sess: sess, Num: num, Ver: version(1+(sess&7), 10+(num&15)),
		Kind: 1 + (sess+num)&3, Code: num & 7, Res: "of " + strconv.Itoa(sess) + "." + strconv.Itoa(num), HasRes: num&1 == 1,
	}
}

// other is a call of the same session and number, and differs in all the rest.
func other(s api.Seen) api.Seen {
	return api.Seen{Sess: s.Sess, Num: s.Num, Ver: s.Ver + version(1, 1), Kind: s.Kind + 1, Code: s.Code + 1, Res: s.Res + ", other", HasRes: !s.HasRes}
}

// some is a list of n sessions, with gaps between most of them.
func some(n int) []api.Seen {
	var l []api.Seen
	for i := range n {
		l = append(l, last(3*i+2+i/3, 5+i%4))
	}
	return l
}

// sessions are the list's, those beside each, and some that are far.
func sessions(l []api.Seen) []int {
	ss := []int{-1, 0, 1, 1 << 20, api.MaxCount}
	for _, s := range l {
		ss = append(ss, s.Sess-1, s.Sess, s.Sess+1)
	}
	slices.Sort(ss)
	return slices.Compact(ss)
}

// roomy is the list, with calls behind its end that nobody may write over.
func roomy(l []api.Seen) []api.Seen {
	more := append(slices.Clone(l), last(1<<30, 1), last(1<<30+1, 2))
	return more[:len(l)]
}

// whole is the list up to its capacity.
func whole(l []api.Seen) []api.Seen { return l[:cap(l)] }

// spoil writes over all of the list, up to its capacity.
func spoil(l []api.Seen) {
	for i := range whole(l) {
		whole(l)[i] = api.Seen{Sess: -9, Num: -9, Res: "spoilt"}
	}
}

func told(l []api.Seen) string {
	s := strconv.Itoa(len(l)) + ":"
	for i, x := range l {
		if i == 20 {
			return s + " .."
		}
		s += " " + toldCall(x)
	}
	return s
}

func toldCall(s api.Seen) string {
	return strconv.Itoa(s.Sess) + "." + strconv.Itoa(s.Num) + "@" + strconv.FormatComplex(complex128(s.Ver), 'g', -1, 128) +
		" (" + strconv.Itoa(s.Kind) + " " + strconv.Itoa(s.Code) + " " + strconv.Quote(s.Res) + " " + strconv.FormatBool(s.HasRes) + ")"
}

func check(t *testing.T, what string, got, want []api.Seen) {
	t.Helper()
	if !slices.Equal(got, want) {
		t.Fatalf("%s: %s, not %s", what, told(got), told(want))
	}
}

func checkFind(t *testing.T, l []api.Seen, sess int, m model) {
	t.Helper()
	got, ok := seen.Find(l, sess)
	if want, there := m[sess]; got != want || ok != there {
		t.Fatalf("the session %d, of %s: %s, %v, not %s, %v", sess, told(l), toldCall(got), ok, toldCall(want), there)
	}
}

func checkVerdict(t *testing.T, l []api.Seen, sess, num, want int) {
	t.Helper()
	if got := seen.Verdict(l, sess, num); got != want {
		t.Fatalf("%d.%d, of %s: %d, not %d", sess, num, told(l), got, want)
	}
}
