package hash_test

import (
	"hash/fnv"
	"math"
	"strings"
	"testing"

	"lockgate/api"
	"lockgate/hash"
)

// sums are texts and their sums, worked out apart from the program.
func sums() map[string]uint64 {
	return map[string]uint64{
		"":             14695981039346656037,
		"a":            12638187200555641996,
		"b":            12638190499090526629,
		"ab":           620445648566982762,
		"ba":           623241706636955660,
		"foobar":       9625390261332436968,
		"\x00":         12638153115695167455,
		"\x00\x00":     590684067820433389,
		"\x7f":         12638211389811462638,
		"\x80":         12638293853183578463,
		"\xc3":         12638365321439412178,
		"\xc3\xa9":     775207407765167617,
		"\xff":         12638352127299873646,
		"\xff\xff":     763862646787557219,
		"\xef\xbf\xbd": 8029185979343987274,
		"a\x80b":       16438025497624236594,
	}
}

// texts are those of sums, every text of one byte, and long ones.
func texts() []string {
	var l []string
	for s := range sums() {
		l = append(l, s)
	}
	for b := range 256 {
		l = append(l, string([]byte{byte(b)}))
	}
	for _, n := range []int{2, 7, 8, 9, 255, 256, 4096, api.MaxText, api.MaxText + 1} {
		l = append(l, strings.Repeat("k", n), strings.Repeat("\x00", n), strings.Repeat("\xff\x80", n))
	}
	return l
}

func fnv1a(s string) uint64 {
	h := fnv.New64a()
	h.Write([]byte(s))
	return h.Sum64()
}

// P2.1: Sum, the empty text and bytes above 127 among them.
func TestSum(t *testing.T) {
	for s, want := range sums() {
		if got := hash.Sum(s); got != want {
			t.Errorf("Sum(%q) = %d, not %d", s, got, want)
		}
	}
}

// P2.1: Sum, held against the library's FNV-1a.
func TestSumOfManyTexts(t *testing.T) {
	for _, s := range texts() {
		if got, want := hash.Sum(s), fnv1a(s); got != want {
			t.Errorf("Sum of %d bytes %.8q = %d, not %d", len(s), s, got, want)
		}
	}
}

// P2.1: the sum goes on byte behind byte: of a text and one byte more it comes of the text's sum.
func TestSumGoesOn(t *testing.T) {
	for _, s := range texts() {
		for _, b := range []byte{0, 1, 'k', 127, 128, 255} {
			want := (hash.Sum(s) ^ uint64(b)) * 1099511628211
			if got := hash.Sum(s + string([]byte{b})); got != want {
				t.Errorf("Sum of %d bytes %.8q and %d = %d, not %d", len(s), s, b, got, want)
			}
		}
	}
}

// manyShards are numbers of shards, from one on, up to the greatest int.
func manyShards() []int {
	l := []int{1 << 31, 1<<32 - 1, 1 << 32, 1<<32 + 1, 1 << 62, math.MaxInt - 1, math.MaxInt}
	for n := 1; n <= 300; n++ {
		l = append(l, n)
	}
	return append(l, 1000, api.MaxText, 1<<31-1)
}

// P2.1: Shard, of one shard and of many.
func TestShard(t *testing.T) {
	for _, s := range texts() {
		for _, shards := range manyShards() {
			got, want := hash.Shard(s, shards), int(fnv1a(s)%uint64(shards))
			if got != want || got < 0 || got >= shards {
				t.Errorf("Shard of %d bytes %.8q of %d = %d, not %d", len(s), s, shards, got, want)
			}
		}
	}
}

// P2.1: Shard, of sums that are beyond an int and of sums that aren't, with remainders worked out apart.
func TestShardByHand(t *testing.T) {
	for _, c := range []struct {
		key          string
		shards, want int
	}{
		{"", 1, 0}, {"a", 1, 0}, {"\xff", 1, 0},
		{"", 3, 2}, {"a", 3, 1}, {"ba", 3, 2}, {"\x80", 3, 2},
		{"", 7, 2}, {"b", 7, 0}, {"ab", 7, 6}, {"foobar", 7, 6}, {"\xef\xbf\xbd", 7, 5},
		{"", 10, 7}, {"a", 10, 6}, {"foobar", 10, 8}, {"\xc3", 10, 8},
		{"", 16, 5}, {"a", 16, 12}, {"ab", 16, 10}, {"foobar", 16, 8}, {"\xff", 16, 14}, {"\xc3\xa9", 16, 1},
		{"", math.MaxInt, 5472609002491880230}, {"ab", math.MaxInt, 620445648566982762},
	} {
		if got := hash.Shard(c.key, c.shards); got != c.want {
			t.Errorf("Shard(%q, %d) = %d, not %d", c.key, c.shards, got, c.want)
		}
	}
}

// P2.1: keys are spread: among a few dozens of them each shard of a cluster has one.
func TestShardsAreUsed(t *testing.T) {
	for shards := 1; shards <= api.MaxShards; shards++ {
		used := map[int]bool{}
		for b := range 256 {
			used[hash.Shard("key"+string([]byte{byte(b)}), shards)] = true
		}
		if len(used) != shards {
			t.Errorf("of %d shards %d are used", shards, len(used))
		}
	}
}

// P2.2: two texts of one length that differ in one byte have unlike sums, whichever byte it is.
func TestOneByteDiffers(t *testing.T) {
	for _, s := range texts() {
		if len(s) > 300 {
			continue
		}
		for place := range len(s) {
			seen := map[uint64]byte{}
			for b := range 256 {
				other := []byte(s)
				other[place] = byte(b)
				sum := hash.Sum(string(other))
				if was, ok := seen[sum]; ok {
					t.Fatalf("%q with %d or %d at %d: one sum", s, was, b, place)
				}
				seen[sum] = byte(b)
			}
		}
	}
}

// P2.2: of a long text too, at its ends and within.
func TestOneByteDiffersInLongTexts(t *testing.T) {
	s := strings.Repeat("k\xff\x00v", api.MaxText/4)
	for _, place := range []int{0, 1, 2, 3, 4095, 4096, len(s) / 2, len(s) - 2, len(s) - 1} {
		for bit := range 8 {
			other := []byte(s)
			other[place] ^= 1 << bit
			if hash.Sum(string(other)) == hash.Sum(s) {
				t.Errorf("bit %d of the byte at %d: one sum", bit, place)
			}
		}
	}
}

// What comes out hangs on what goes in alone.
func TestTwice(t *testing.T) {
	for _, s := range texts() {
		if hash.Sum(s) != hash.Sum(strings.Clone(s)) || hash.Shard(s, 16) != hash.Shard(strings.Clone(s), 16) {
			t.Errorf("%d bytes %.8q: two answers", len(s), s)
		}
	}
}

// The chapter's examples.
func TestExamples(t *testing.T) {
	if got := hash.Sum(""); got != 14695981039346656037 {
		t.Errorf(`Sum("") = %d`, got)
	}
	if got := hash.Sum("a"); got != 12638187200555641996 {
		t.Errorf(`Sum("a") = %d`, got)
	}
}

// No call panics, of no shards neither.
func TestNoPanic(t *testing.T) {
	for _, s := range texts() {
		for _, shards := range []int{0, -1, -2, -16, math.MinInt + 1, math.MinInt} {
			if got := hash.Shard(s, shards); got != 0 {
				t.Errorf("Shard of %d bytes %.8q of %d = %d", len(s), s, shards, got)
			}
		}
	}
}
