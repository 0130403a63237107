package haul

import (
	"slices"
	"strconv"
	"strings"
	"testing"
	"unsafe"

	"haul/api"
)

// roomy has a cache that nothing is let go of in a short test, and failures to spare.
var roomy = api.Settings{Mirrors: 3, Block: 4, Window: 2, Cache: 256, Tries: 4}

func withCache(s api.Settings, bytes int) api.Settings {
	s.Cache = bytes
	return s
}

// in7, in8: entries of the path 0 and of the version with the tag 7 or 8.
func in7(total int, blocks ...int) []api.Entry { return in(0, 7, total, blocks...) }
func in8(total int, blocks ...int) []api.Entry { return in(0, 8, total, blocks...) }

func in(path, tag, total int, blocks ...int) []api.Entry {
	var l []api.Entry
	for _, k := range blocks {
		l = append(l, api.Entry{Path: path, Tag: tag, Total: total, Block: k})
	}
	return l
}

// checkCache compares the entries, the one that was used last at the end, and Used with the sum over them.
func checkCache(t *testing.T, p *Proxy, want ...[]api.Entry) {
	t.Helper()
	before := copyOf(p)
	l := p.Entries()
	if all := slices.Concat(want...); !slices.Equal(l, all) {
		t.Fatalf("Entries() = %+v, want %+v", l, all)
	}
	sum := 0
	for _, e := range l {
		sum += min(p.settings.Block, e.Total-e.Block*p.settings.Block)
	}
	if n := p.Used(); n != sum || n > p.settings.Cache {
		t.Fatalf("Used() = %d, want %d, of %d", n, sum, p.settings.Cache)
	}
	same(t, p, before)
}

// bring lets an idle mirror fetch block k of the version with the tag 7, which has to be the next that is wanted.
func bring(t *testing.T, p *Proxy, mirror, total, k int) {
	t.Helper()
	from := k * p.settings.Block
	end := min(total, from+p.settings.Block)
	next(t, p, mirror, of7(total, from, end-from))
	reply(t, p, mirror, 7, total, from, letters[from:end])
}

// filled makes a proxy whose transfer 0 has taken the first bytes of the version with the tag 7 and this total, up to
// the end of a block or of the object: the blocks went into the cache one by one.
func filled(t *testing.T, s api.Settings, total, count int) *Proxy {
	t.Helper()
	p := bound(t, s, "bytes=0-"+strconv.Itoa(count-1), total)
	for k := 0; k*s.Block < count; k++ {
		if k > 0 {
			bring(t, p, 0, total, k)
		}
		take(t, p, 0, s.Block, letters[k*s.Block:min(count, (k+1)*s.Block)])
	}
	checkState(t, p, 0, api.Done)
	return p
}

// single lets a path of its own have a version of the tag 7 with a single block.
func single(t *testing.T, p *Proxy, path, id int, body string) {
	t.Helper()
	ask(t, p, path, "", id)
	next(t, p, 0, anyOf(path, p.settings.Block))
	reply(t, p, 0, 7, len(body), 0, body)
}

// P10: what goes into the cache

func TestBlockOfAboutAllTheCache(t *testing.T) {
	for _, c := range []struct {
		cache, total int
		goes         bool
	}{
		{0, 1, false}, {0, 10, false}, {1, 1, true}, {1, 2, false}, {1, 10, false}, {2, 1, true}, {3, 3, true}, {3, 4, false}, {3, 10, false}, {4, 3, true}, {4, 4, true}, {4, 10, true}, {5, 10, true}, {256, 10, true},
	} {
		p := bound(t, withCache(roomy, c.cache), "", c.total)
		checkHeld(t, p, 0, min(4, c.total)) // the transfer has it in any case
		if c.goes {
			checkCache(t, p, in7(c.total, 0))
		} else {
			checkCache(t, p)
		}
	}
}

func TestBlockThatIsTooLongLetsTheOthersBe(t *testing.T) {
	p := start(t, withCache(roomy, 3))
	single(t, p, 0, 0, "a")
	single(t, p, 1, 1, "bc")
	checkCache(t, p, in7(1, 0), in(1, 7, 2, 0))
	single(t, p, 2, 2, "defg")
	checkCache(t, p, in7(1, 0), in(1, 7, 2, 0))
	take(t, p, 2, 9, "defg")
	single(t, p, 3, 3, "h") // and a short one goes into it still
	checkCache(t, p, in(1, 7, 2, 0), in(3, 7, 1, 0))
	ask(t, p, 2, "", 4)
	checkHeld(t, p, 4, 0)
}

func TestNoCache(t *testing.T) {
	p := filled(t, bare, 10, 10)
	checkCache(t, p)
	ask(t, p, 0, "bytes=0-7", 1)
	checkHeld(t, p, 1, 0)
	bring(t, p, 0, 10, 0)
	bring(t, p, 0, 10, 1)
	checkCache(t, p)
	take(t, p, 1, 9, "abcdefgh")
}

func TestWhatIsNotDelivered(t *testing.T) {
	for _, r := range notSensible {
		p := start(t, roomy)
		ask(t, p, 0, "", 0)
		next(t, p, 0, anyOf(0, 4))
		checkCache(t, p)
		reply(t, p, 0, r.Tag, r.Total, r.Offset, r.Body)
		checkCache(t, p)
	}
	p := bound(t, roomy, "", 10)
	next(t, p, 0, of7(10, 4, 4))
	reply(t, p, 0, 7, 10, 4, "efg")
	checkCache(t, p, in7(10, 0))
	next(t, p, 0, of7(10, 4, 4))
	fail(t, p, 0)
	checkCache(t, p, in7(10, 0))
}

func TestReplyWithoutBytesIsNotInTheCache(t *testing.T) {
	p := bound(t, roomy, "", 0)
	checkCache(t, p)
	p = bound(t, roomy, "bytes=8-", 10)
	next(t, p, 0, of7(10, 8, 2))
	reply(t, p, 0, 8, 8, 8, "") // that version ends ahead of the block
	checkCache(t, p, in7(10, 0))
}

// What nobody wants, or nobody wants any more, goes into the cache too.
func TestDeliveredToNobody(t *testing.T) {
	p := bound(t, roomy, "bytes=4-7", 10)
	checkHeld(t, p, 0, 0)
	checkCache(t, p, in7(10, 0))

	s := roomy
	s.Tries = 1
	p = bound(t, s, "bytes=4-", 10)
	next(t, p, 0, of7(10, 4, 4))
	next(t, p, 1, of7(10, 8, 2))
	fail(t, p, 0)
	checkState(t, p, 0, api.Lost)
	reply(t, p, 1, 7, 10, 8, "ij")
	checkHeld(t, p, 0, 0)
	checkCache(t, p, in7(10, 0, 2))
	ask(t, p, 0, "bytes=8-", 1)
	take(t, p, 1, 9, "ij")
}

// The version in the cache is that of the reply, be it the one asked for, the latest one, or neither.
func TestVersionInTheCache(t *testing.T) {
	p := bound(t, roomy, "", 10)
	take(t, p, 0, 0, "")
	next(t, p, 0, of7(10, 4, 4))
	reply(t, p, 0, 8, 9, 4, "EFGH")
	checkCache(t, p, in7(10, 0), in8(9, 1))
	bring(t, p, 0, 10, 1) // the latest version is another
	checkCache(t, p, in7(10, 0), in8(9, 1), in7(10, 1))
	take(t, p, 0, 9, "abcdefgh")
	ask(t, p, 0, "bytes=4-7", 1)
	checkHead(t, p, 1, api.Head{Status: 206, Tag: 8, Total: 9, From: 4, Len: 4})
	take(t, p, 1, 9, "EFGH")
}

// Two mirrors can bring the same block, if one of them answers with another version than it was asked for. The cache
// is full to the last byte: what takes the place of a block drives out no other.
func TestTheSameButForItsBytes(t *testing.T) {
	p := bound(t, withCache(roomy, 16), "bytes=4-", 12)
	take(t, p, 0, 0, "")
	next(t, p, 0, of7(12, 4, 4))
	next(t, p, 1, of7(12, 8, 4))
	reply(t, p, 1, 8, 12, 8, "IJKL")
	ask(t, p, 0, "", 1)
	bring(t, p, 1, 12, 2)
	next(t, p, 1, of8(12, 0, 4))
	next(t, p, 2, of8(12, 4, 4))
	checkCache(t, p, in7(12, 0), in8(12, 2), in7(12, 2))
	reply(t, p, 2, 7, 12, 4, "efgh")
	checkCache(t, p, in8(12, 2), in7(12, 2, 1, 0)) // transfer 1 has found block 0
	reply(t, p, 0, 7, 12, 4, "EFGH")
	checkCache(t, p, in8(12, 2), in7(12, 2, 0, 1))
	ask(t, p, 0, "bytes=4-7", 2)
	take(t, p, 2, 9, "EFGH")
	take(t, p, 0, 9, "efghijkl") // who had the block keeps what he had
	take(t, p, 1, 9, "abcdefgh")
}

// Blocks of the same number, of other paths, and of versions that differ by one number alone.
func TestOtherPathsAndVersions(t *testing.T) {
	for _, v := range []version{{tag: 7, total: 11}, {tag: 8, total: 10}} {
		p := filled(t, roomy, 10, 8)
		ask(t, p, 0, "bytes=8-8", 1)
		next(t, p, 0, of7(10, 8, 2))
		reply(t, p, 0, v.tag, v.total, 8, letters[8:v.total])
		ask(t, p, 0, "bytes=0-7", 2)
		checkHeld(t, p, 2, 0)
		checkCache(t, p, in7(10, 0, 1), in(0, v.tag, v.total, 2))
		next(t, p, 0, api.Fetch{Tag: v.tag, Total: v.total, Len: 4})
		reply(t, p, 0, v.tag, v.total, 0, "ABCD")
		checkCache(t, p, in7(10, 0, 1), in(0, v.tag, v.total, 2, 0))
		take(t, p, 2, 9, "ABCD")
	}
	p := filled(t, roomy, 10, 10)
	ask(t, p, 1, "", 1) // of any version: that finds nothing
	checkOpen(t, p, 1)
	next(t, p, 0, anyOf(1, 4))
	reply(t, p, 0, 7, 10, 0, "ABCD")
	checkHeld(t, p, 1, 4)
	checkCache(t, p, in7(10, 0, 1, 2), in(1, 7, 10, 0))
	take(t, p, 1, 9, "ABCD")
	next(t, p, 0, api.Fetch{Path: 1, Tag: 7, Total: 10, Offset: 4, Len: 4})
	reply(t, p, 0, 7, 10, 4, "EFGH")
	checkCache(t, p, in7(10, 0, 1, 2), in(1, 7, 10, 0, 1))
	ask(t, p, 0, "bytes=0-3", 2)
	ask(t, p, 1, "bytes=0-3", 3)
	checkCache(t, p, in7(10, 1, 2), in(1, 7, 10, 1), in7(10, 0), in(1, 7, 10, 0))
	take(t, p, 2, 9, "abcd")
	take(t, p, 3, 9, "ABCD")
}

// P10: the order, and what is let go

func TestOrderOfDeliveries(t *testing.T) {
	p := bound(t, roomy, "", 14)
	take(t, p, 0, 9, "abcd")
	next(t, p, 0, of7(14, 4, 4))
	next(t, p, 1, of7(14, 8, 4))
	reply(t, p, 1, 7, 14, 8, "ijkl")
	checkCache(t, p, in7(14, 0, 2))
	reply(t, p, 0, 7, 14, 4, "efgh")
	checkCache(t, p, in7(14, 0, 2, 1))
	take(t, p, 0, 9, "efghijkl")
	bring(t, p, 0, 14, 3)
	checkCache(t, p, in7(14, 0, 2, 1, 3))
}

func TestOrderBehindAsk(t *testing.T) {
	p := filled(t, roomy, 14, 14)
	checkCache(t, p, in7(14, 0, 1, 2, 3))
	ask(t, p, 0, "bytes=4-", 1)
	checkCache(t, p, in7(14, 0, 3, 1, 2))
	checkHeld(t, p, 1, 8)
	ask(t, p, 0, "", 2)
	checkCache(t, p, in7(14, 3, 2, 0, 1))
	checkHeld(t, p, 2, 8)
	ask(t, p, 0, "bytes=-1", 3)
	checkCache(t, p, in7(14, 2, 0, 1, 3))
	checkHeld(t, p, 3, 2)
	ask(t, p, 0, "bytes=14-", 4) // wants nothing
	ask(t, p, 1, "", 5)          // nor anything that is here
	checkCache(t, p, in7(14, 2, 0, 1, 3))
	take(t, p, 3, 9, "n")
	take(t, p, 1, 9, "efghijkl")
	take(t, p, 2, 9, "abcdefgh")
}

// What a window has and the cache has not is fetched, and nothing else.
func TestAskThatFindsAPart(t *testing.T) {
	s := roomy
	s.Window = 4
	for _, c := range []struct{ got, wanted []int }{{[]int{1}, []int{0, 2, 3}}, {[]int{0, 2}, []int{1, 3}}, {[]int{1, 3}, []int{0, 2}}, {[]int{2, 3}, []int{0, 1}}} {
		p := filled(t, s, 26, 4)
		p.cache.blocks = nil
		id := 1
		for _, k := range c.got {
			ask(t, p, 0, "bytes="+strconv.Itoa(k*4)+"-"+strconv.Itoa(k*4+3), id)
			bring(t, p, 0, 26, k)
			id++
		}
		ask(t, p, 0, "bytes=0-15", id)
		checkHeld(t, p, id, 4*len(c.got))
		for _, k := range c.wanted {
			bring(t, p, 0, 26, k)
		}
		idle(t, p, 0)
		checkCache(t, p, in7(26, c.got...), in7(26, c.wanted...))
		take(t, p, id, 99, letters[:16])
	}
}

func TestOrderBehindTake(t *testing.T) {
	p := filled(t, roomy, 26, 20)
	ask(t, p, 0, "", 1)
	checkCache(t, p, in7(26, 2, 3, 4, 0, 1))
	take(t, p, 1, 0, "")
	take(t, p, 1, 3, "abc")
	checkCache(t, p, in7(26, 2, 3, 4, 0, 1)) // the window has not moved, and what is held is not used again
	take(t, p, 1, 1, "d")
	checkCache(t, p, in7(26, 3, 4, 0, 1, 2))
	checkHeld(t, p, 1, 8)
	take(t, p, 1, 99, "efghijkl")
	checkCache(t, p, in7(26, 0, 1, 2, 3, 4))
	checkHeld(t, p, 1, 8)
	take(t, p, 1, 5, "mnopq")
	checkCache(t, p, in7(26, 0, 1, 2, 3, 4)) // block 5 is not there
	checkHeld(t, p, 1, 4)
	bring(t, p, 0, 26, 5)
	take(t, p, 1, 99, "rstuvwx")
	checkHeld(t, p, 1, 0)
}

// Take gives out what was held ahead of it; what it finds in the cache is for the next one.
func TestTakeLooksAtItsEnd(t *testing.T) {
	s := roomy
	s.Window = 1
	p := filled(t, s, 10, 10)
	ask(t, p, 0, "bytes=1-", 1)
	checkCache(t, p, in7(10, 1, 2, 0))
	checkHeld(t, p, 1, 4)
	take(t, p, 1, 99, "bcd")
	checkCache(t, p, in7(10, 2, 0, 1))
	checkHeld(t, p, 1, 4)
	take(t, p, 1, 99, "efgh")
	checkCache(t, p, in7(10, 0, 1, 2))
	checkHeld(t, p, 1, 2)
	take(t, p, 1, 99, "ij")
	checkCache(t, p, in7(10, 0, 1, 2))
	checkHeld(t, p, 1, 0)
	idle(t, p, 0)
}

// A version that comes back finds its blocks again: the transfers by their numbers, each one's blocks rising, and all
// of it behind the block that was delivered.
func TestOrderBehindReply(t *testing.T) {
	for _, c := range []struct {
		window        int
		first, second string
		want          [][]api.Entry
	}{
		{2, "bytes=4-11", "bytes=0-7", [][]api.Entry{in8(14, 3), in7(14, 1, 2, 0)}},
		{2, "bytes=0-7", "bytes=4-11", [][]api.Entry{in8(14, 3), in7(14, 1, 0, 2)}},
		{2, "bytes=4-11", "bytes=0-3", [][]api.Entry{in8(14, 3), in7(14, 1, 2, 0)}},
		{2, "bytes=4-7", "bytes=0-7", [][]api.Entry{in7(14, 2), in8(14, 3), in7(14, 1, 0)}},
		{2, "bytes=4-7", "bytes=4-7", [][]api.Entry{in7(14, 0, 2), in8(14, 3), in7(14, 1)}},
		{3, "bytes=0-11", "bytes=4-11", [][]api.Entry{in8(14, 3), in7(14, 1, 0, 2)}},
		{3, "bytes=4-11", "bytes=0-11", [][]api.Entry{in8(14, 3), in7(14, 1, 0, 2)}}, // both find block 2
	} {
		s := roomy
		s.Window = c.window
		p := filled(t, s, 14, 12)
		ask(t, p, 0, "bytes=12-", 1)
		next(t, p, 0, of7(14, 12, 2))
		reply(t, p, 0, 8, 14, 12, "MN")
		take(t, p, 1, 9, "MN")
		ask(t, p, 0, "bytes=4-7", 2)
		next(t, p, 0, of8(14, 4, 4))
		ask(t, p, 0, c.first, 3)
		ask(t, p, 0, c.second, 4)
		checkHeld(t, p, 3, 0)
		checkHeld(t, p, 4, 0)
		checkCache(t, p, in7(14, 0, 1, 2), in8(14, 3))
		reply(t, p, 0, 7, 14, 4, "efgh")
		checkCache(t, p, c.want...)
		idle(t, p, 0)
	}
}

// A reply that is not sensible, and Fail, use nothing.
func TestOrderBehindFailures(t *testing.T) {
	p := filled(t, roomy, 14, 12)
	ask(t, p, 0, "bytes=4-", 1)
	take(t, p, 1, 4, "efgh")
	ask(t, p, 0, "bytes=0-3", 2)
	checkCache(t, p, in7(14, 1, 2, 0))
	next(t, p, 0, of7(14, 12, 2))
	reply(t, p, 0, 7, 14, 12, "m")
	checkCache(t, p, in7(14, 1, 2, 0))
	next(t, p, 0, of7(14, 12, 2))
	fail(t, p, 0)
	checkCache(t, p, in7(14, 1, 2, 0))
	checkHeld(t, p, 1, 4)
	checkHeld(t, p, 2, 4)
	bring(t, p, 0, 14, 3)
	checkCache(t, p, in7(14, 1, 2, 0, 3))
}

// It counts when a block was last used, not when it came.
func TestLetGoByLastUse(t *testing.T) {
	p := filled(t, withCache(roomy, 12), 26, 12)
	checkCache(t, p, in7(26, 0, 1, 2))
	ask(t, p, 0, "bytes=0-3", 1)
	checkCache(t, p, in7(26, 1, 2, 0))
	ask(t, p, 0, "bytes=12-", 2)
	bring(t, p, 0, 26, 3)
	checkCache(t, p, in7(26, 2, 0, 3))
	bring(t, p, 0, 26, 4)
	checkCache(t, p, in7(26, 0, 3, 4))
	ask(t, p, 0, "bytes=0-7", 3)
	checkCache(t, p, in7(26, 3, 4, 0))
	bring(t, p, 0, 26, 1)
	checkCache(t, p, in7(26, 4, 0, 1))
	take(t, p, 2, 9, "mnopqrst")
	bring(t, p, 0, 26, 5)
	bring(t, p, 0, 26, 6) // of two bytes: of four blocks one has to go, as before
	checkCache(t, p, in7(26, 1, 5, 6))
}

// As many go as have to, and no more.
func TestSeveralLetGoAtOnce(t *testing.T) {
	for _, c := range []struct{ cache, left int }{{3, 3}, {4, 0}, {5, 1}, {6, 2}, {7, 3}, {8, 3}} {
		p := start(t, withCache(roomy, c.cache))
		for path, body := range []string{"a", "b", "c"} {
			single(t, p, path, path, body)
		}
		single(t, p, 3, 3, "defg")
		var want []api.Entry
		for path := 3 - c.left; path < 3; path++ {
			want = append(want, api.Entry{Path: path, Tag: 7, Total: 1})
		}
		if c.cache >= 4 {
			want = append(want, api.Entry{Path: 3, Tag: 7, Total: 4})
		}
		checkCache(t, p, want)
	}
}

// Small blocks behind large ones: one that goes makes room for several.
func TestOneLetGoForSeveral(t *testing.T) {
	p := start(t, withCache(roomy, 4))
	single(t, p, 0, 0, "abcd")
	single(t, p, 1, 1, "e")
	checkCache(t, p, in(1, 7, 1, 0))
	single(t, p, 2, 2, "fg")
	single(t, p, 3, 3, "h")
	checkCache(t, p, in(1, 7, 1, 0), in(2, 7, 2, 0), in(3, 7, 1, 0))
}

func TestCacheAtItsBounds(t *testing.T) {
	text := strings.Repeat(letters, 39)[:1000]
	for _, c := range []struct{ cache, size, first, used int }{{256, 1, 744, 256}, {256, 16, 47, 248}, {16, 16, 62, 8}, {24, 16, 61, 24}, {23, 16, 62, 8}, {8, 16, 62, 8}, {1, 1, 999, 1}, {255, 3, 249, 253}} {
		p := bound(t, api.Settings{Mirrors: 1, Block: c.size, Window: 4, Cache: c.cache, Tries: 1}, "", 1000)
		all, _ := takeAll(t, p, text, 50)
		if all != text {
			t.Errorf("%+v: %q was taken", c, all)
		}
		var want []int
		for k := c.first; k*c.size < 1000; k++ {
			want = append(want, k)
		}
		checkCache(t, p, in7(1000, want...))
		if n := p.Used(); n != c.used {
			t.Errorf("%+v: Used() = %d", c, n)
		}
	}
}

// What a transfer holds is its own, whatever the cache lets go of.
func TestHeldBehindTheCache(t *testing.T) {
	p := bound(t, withCache(roomy, 4), "", 10)
	ask(t, p, 0, "bytes=0-3", 1)
	bring(t, p, 0, 10, 1)
	checkCache(t, p, in7(10, 1))
	checkHeld(t, p, 0, 8)
	checkHeld(t, p, 1, 4)
	take(t, p, 1, 9, "abcd")
	take(t, p, 0, 9, "abcdefgh")
}

// P10: who finds what

// A block that is held already is not used by looking.
func TestHeldIsNotUsedAgain(t *testing.T) {
	p := bound(t, roomy, "", 10)
	bring(t, p, 0, 10, 1)
	ask(t, p, 0, "bytes=0-3", 1)
	checkCache(t, p, in7(10, 1, 0))
	take(t, p, 0, 1, "a")
	ask(t, p, 0, "bytes=9-", 2)
	checkCache(t, p, in7(10, 1, 0))
	bring(t, p, 0, 10, 2)
	checkCache(t, p, in7(10, 1, 0, 2))
	take(t, p, 0, 9, "bcdefgh")
	checkCache(t, p, in7(10, 1, 0, 2))
	checkHeld(t, p, 0, 2)
}

// To find a block is not to have it delivered: failures stay.
func TestFindingDoesNotEndFailures(t *testing.T) {
	s := roomy
	s.Tries = 2
	p := bound(t, s, "", 14)
	ask(t, p, 0, "bytes=8-11", 1)
	next(t, p, 0, of7(14, 4, 4))
	bring(t, p, 1, 14, 2)
	fail(t, p, 0)
	take(t, p, 0, 9, "abcd")
	checkHeld(t, p, 0, 4)
	checkCache(t, p, in7(14, 0, 2))
	next(t, p, 0, of7(14, 4, 4))
	fail(t, p, 0)
	checkState(t, p, 0, api.Lost)
	checkState(t, p, 1, api.Going)
	checkCache(t, p, in7(14, 0, 2))
}

// A lost transfer and a done one want nothing of the cache.
func TestLostAndDoneFindNothing(t *testing.T) {
	s := roomy
	s.Tries = 1
	p := filled(t, s, 14, 8)
	ask(t, p, 0, "bytes=4-", 1)
	next(t, p, 0, of7(14, 8, 4))
	fail(t, p, 0)
	checkLost(t, p, 1, api.Head{Status: 502})
	ask(t, p, 0, "", 2)
	checkCache(t, p, in7(14, 0, 1))
	checkHeld(t, p, 2, 8)
	ask(t, p, 0, "bytes=0-3", 3)
	checkCache(t, p, in7(14, 1, 0))
	checkLost(t, p, 1, api.Head{Status: 502})
	take(t, p, 0, 9, "")
	checkHeld(t, p, 0, 0)
	checkCache(t, p, in7(14, 1, 0))
}

// For what was found no mirror is sent, and one that was sent for it ahead of that may still fail: nobody wants it.
func TestFoundWhileAMirrorIsUnderWay(t *testing.T) {
	s := roomy
	s.Tries = 1
	p := bound(t, s, "", 10)
	next(t, p, 0, of7(10, 4, 4))
	ask(t, p, 0, "bytes=8-", 1)
	next(t, p, 1, of7(10, 8, 2))
	reply(t, p, 1, 8, 12, 8, "IJKL") // both follow
	checkCache(t, p, in7(10, 0), in8(12, 2))
	next(t, p, 1, of8(12, 0, 4))
	next(t, p, 2, of8(12, 4, 4))
	reply(t, p, 2, 7, 10, 4, "efgh") // and both go back
	checkCache(t, p, in8(12, 2), in7(10, 1, 0))
	checkHeld(t, p, 0, 8)
	fail(t, p, 0)
	fail(t, p, 1)
	checkState(t, p, 0, api.Going)
	checkState(t, p, 1, api.Going)
	bring(t, p, 0, 10, 2)
	idle(t, p, 1)
	take(t, p, 0, 99, "abcdefgh")
	take(t, p, 0, 99, "ij")
	take(t, p, 1, 99, "ij")
}

// P2

func TestEntriesAreTheCallers(t *testing.T) {
	for _, total := range []int{0, 3, 10, 26} {
		p := bound(t, roomy, "", total)
		if total > 0 {
			p = filled(t, roomy, total, total)
		}
		var all []int
		for k := 0; k*4 < total; k++ {
			all = append(all, k)
		}
		before := copyOf(p)
		first := p.Entries()
		second := p.Entries()
		scribble(first)
		if !slices.Equal(second, in7(total, all...)) {
			t.Errorf("two lists share their entries: %v", second)
		}
		scribble(p.Entries())
		checkCache(t, p, in7(total, all...))
		same(t, p, before)
		ask(t, p, 1, "", 1) // nor is what comes later laid into the spare room of what was given out
		next(t, p, 0, anyOf(1, 4))
		reply(t, p, 0, 7, 2, 0, "yz")
		scribble(second)
		checkCache(t, p, in7(total, all...), in(1, 7, 2, 0))
		for i, e := range first[:cap(first)] {
			if e.Path != -1 {
				t.Errorf("entry %d of a list was changed later: %+v", i, e)
			}
		}
	}
}

// scribble writes into a list and into its spare room.
func scribble(l []api.Entry) {
	l = l[:cap(l)]
	for i := range l {
		l[i] = api.Entry{Path: -1, Tag: -1, Total: -1, Block: -1}
	}
}

// Two proxies have a cache each.
func TestCachesBesideOneAnother(t *testing.T) {
	p := filled(t, roomy, 10, 10)
	q := start(t, roomy)
	checkCache(t, q)
	single(t, q, 0, 0, "xyz")
	checkCache(t, p, in7(10, 0, 1, 2))
	checkCache(t, q, in7(3, 0))
}

// Neither the caller's text nor what was let go is kept.
func TestCacheKeepsNoMore(t *testing.T) {
	body := strings.Repeat(letters, 1000)[26:30]
	p := start(t, withCache(roomy, 4))
	ask(t, p, 0, "", 0)
	next(t, p, 0, anyOf(0, 4))
	reply(t, p, 0, 7, 10, 0, body)
	if unsafe.StringData(p.cache.blocks[0].bytes) == unsafe.StringData(body) {
		t.Error("the cache keeps the caller's text")
	}
	p = filled(t, withCache(roomy, 8), 26, 26)
	for i, b := range p.cache.blocks[:cap(p.cache.blocks)] {
		if i >= len(p.cache.blocks) && b != (cached{}) {
			t.Errorf("behind the end of the cache's list is %+v", b)
		}
	}
}
