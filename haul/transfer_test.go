package haul

import (
	"math"
	"strings"
	"testing"
	"unsafe"

	"haul/api"
)

const letters = "abcdefghijklmnopqrstuvwxyz"

// bound makes a proxy whose transfer 0 has the range, and the version with the tag 7 and this total, and holds
// block 0, if its window has that.
func bound(t *testing.T, s api.Settings, ranges string, total int) *Proxy {
	t.Helper()
	p := start(t, s)
	ask(t, p, 0, ranges, 0)
	next(t, p, 0, anyOf(0, s.Block))
	reply(t, p, 0, 7, total, 0, strings.Repeat(letters, 1+total/len(letters))[:min(s.Block, total)])
	return p
}

// of7: what a mirror is sent for, if the version has the tag 7 and the path is 0.
func of7(total, offset, count int) api.Fetch {
	return api.Fetch{Tag: 7, Total: total, Offset: offset, Len: count}
}

// P5 and P6

func TestOpenTransferStaysOpen(t *testing.T) {
	p := start(t, plain)
	ask(t, p, 1, "bytes=2-6", 0)
	for range 3 {
		checkOpen(t, p, 0)
	}
	next(t, p, 0, anyOf(1, 4))
	checkOpen(t, p, 0)
	fail(t, p, 0)
	checkOpen(t, p, 0)
}

func TestNumbersOfNoTransfer(t *testing.T) {
	p := start(t, plain)
	for _, id := range oddIds {
		refuseId(t, p, id)
	}
	for id := range api.MaxTransfers {
		ask(t, p, 0, "", id)
	}
	for _, id := range oddIds {
		refuseId(t, p, id)
	}
}

func TestStates(t *testing.T) {
	p := start(t, bare)
	ask(t, p, 0, "bytes=2-5", 0)
	checkState(t, p, 0, api.Open)
	next(t, p, 0, anyOf(0, 4))
	reply(t, p, 0, 7, 10, 0, "abcd")
	checkState(t, p, 0, api.Going)
	take(t, p, 0, 9, "cd")
	checkState(t, p, 0, api.Going)
	next(t, p, 0, of7(10, 4, 4))
	reply(t, p, 0, 7, 10, 4, "efgh")
	checkState(t, p, 0, api.Going)
	take(t, p, 0, 1, "e")
	checkState(t, p, 0, api.Going)
	take(t, p, 0, 1, "f")
	checkState(t, p, 0, api.Done)
	take(t, p, 0, 1, "")
	checkState(t, p, 0, api.Done)
	checkHead(t, p, 0, api.Head{Status: 206, Tag: 7, Total: 10, From: 2, Len: 4})
	idle(t, p, 0)

	ask(t, p, 1, "", 1)
	for range bare.Tries {
		checkState(t, p, 1, api.Open)
		next(t, p, 0, anyOf(1, 4))
		fail(t, p, 0)
	}
	checkState(t, p, 1, api.Lost)
	ask(t, p, 0, "bytes=9-", 2)
	for range bare.Tries {
		checkState(t, p, 2, api.Going)
		next(t, p, 0, of7(10, 8, 2))
		fail(t, p, 0)
	}
	checkState(t, p, 2, api.Lost)
	checkState(t, p, 1, api.Lost)
	checkState(t, p, 0, api.Done)
}

// Without any byte to give out a transfer is done as soon as it is bound, shown or not.
func TestDoneWithoutBytes(t *testing.T) {
	for _, ranges := range []string{"bytes=10-", "bytes=10-11", "bytes=-0"} {
		p := bound(t, bare, ranges, 10)
		checkState(t, p, 0, api.Done)
		checkHeld(t, p, 0, 0)
		idle(t, p, 0)
		take(t, p, 0, 9, "")
		checkState(t, p, 0, api.Done)
		checkHead(t, p, 0, api.Head{Status: 416, Tag: 7, Total: 10})
	}
	p := bound(t, bare, "", 0)
	checkState(t, p, 0, api.Done)
	checkHead(t, p, 0, api.Head{Status: 200, Tag: 7})
}

func TestHeadOfEveryKindOfRange(t *testing.T) {
	none := func(total int) api.Head { return api.Head{Status: 416, Tag: 7, Total: total} }
	part := func(total, from, count int) api.Head {
		return api.Head{Status: 206, Tag: 7, Total: total, From: from, Len: count}
	}
	for _, c := range []struct {
		ranges string
		want   api.Head
	}{
		{"", api.Head{Status: 200, Tag: 7}},
		{"", api.Head{Status: 200, Tag: 7, Total: 1, Len: 1}},
		{"", api.Head{Status: 200, Tag: 7, Total: 1000, Len: 1000}},
		{"bytes=1-0", api.Head{Status: 200, Tag: 7, Total: 10, Len: 10}},
		{"bytes=0-0", none(0)}, {"bytes=1-1", none(0)}, {"bytes=0-0", part(1, 0, 1)}, {"bytes=0-9", part(1, 0, 1)}, {"bytes=1-1", none(1)}, {"bytes=2-9", none(1)},
		{"bytes=9-9", part(10, 9, 1)}, {"bytes=9-10", part(10, 9, 1)}, {"bytes=8-9", part(10, 8, 2)}, {"bytes=10-10", none(10)}, {"bytes=11-12", none(10)}, {"bytes=0-8", part(10, 0, 9)}, {"bytes=0-999999", part(10, 0, 10)},
		{"bytes=0-", none(0)}, {"bytes=1-", none(0)}, {"bytes=0-", part(1, 0, 1)}, {"bytes=1-", none(1)}, {"bytes=2-", none(1)},
		{"bytes=0-", part(10, 0, 10)}, {"bytes=9-", part(10, 9, 1)}, {"bytes=10-", none(10)}, {"bytes=11-", none(10)}, {"bytes=999-", part(1000, 999, 1)}, {"bytes=1000-", none(1000)},
		{"bytes=-0", none(0)}, {"bytes=-1", none(0)}, {"bytes=-0", none(1)}, {"bytes=-1", part(1, 0, 1)}, {"bytes=-2", part(1, 0, 1)},
		{"bytes=-0", none(10)}, {"bytes=-1", part(10, 9, 1)}, {"bytes=-9", part(10, 1, 9)}, {"bytes=-10", part(10, 0, 10)}, {"bytes=-11", part(10, 0, 10)}, {"bytes=-999999", part(10, 0, 10)},
	} {
		p := bound(t, bare, c.ranges, c.want.Total)
		checkHead(t, p, 0, c.want)
		ask(t, p, 0, c.ranges, 1)
		checkHead(t, p, 1, c.want)
		checkHead(t, p, 0, c.want)
	}
}

// Only a transfer that is not shown takes on a new version: so it can be seen from outside which calls show it.
func TestWhatShows(t *testing.T) {
	for _, c := range []struct {
		name  string
		call  func(p *Proxy)
		shows bool
	}{
		{"nothing", func(p *Proxy) {}, false},
		{"State", func(p *Proxy) { p.State(1) }, false},
		{"Held", func(p *Proxy) { p.Held(1) }, false},
		{"Head of another", func(p *Proxy) { p.Head(0) }, false},
		{"Take of another", func(p *Proxy) { p.Take(0, 1) }, false},
		{"a Take that is refused", func(p *Proxy) { p.Take(1, -1) }, false},
		{"Head", func(p *Proxy) { p.Head(1) }, true},
		{"Take", func(p *Proxy) { p.Take(1, 1) }, true},
		{"Take of no byte", func(p *Proxy) { p.Take(1, 0) }, true},
	} {
		p := bound(t, bare, "bytes=4-", 10)
		ask(t, p, 0, "", 1)
		c.call(p)
		next(t, p, 0, of7(10, 4, 4))
		reply(t, p, 0, 8, 9, 4, "EFGH")
		want := api.Head{Status: 200, Tag: 8, Total: 9, Len: 9}
		if c.shows {
			want = api.Head{Status: 200, Tag: 7, Total: 10, Len: 10}
		}
		if h, e := p.Head(1); h != want || e != api.OK {
			t.Errorf("%s: Head(1) = %+v, %d, want %+v", c.name, h, e, want)
		}
	}
}

// A refused Head or Take of an open transfer does not show it either.
func TestOpenTransferIsNotShown(t *testing.T) {
	p := start(t, bare)
	ask(t, p, 0, "", 0)
	checkOpen(t, p, 0)
	next(t, p, 0, anyOf(0, 4))
	reply(t, p, 0, 7, 10, 0, "abcd")
	next(t, p, 0, of7(10, 4, 4))
	reply(t, p, 0, 8, 9, 4, "EFGH")
	checkHead(t, p, 0, api.Head{Status: 200, Tag: 8, Total: 9, Len: 9})
}

func checkLost(t *testing.T, p *Proxy, id int, head api.Head) {
	t.Helper()
	for range 2 {
		checkState(t, p, id, api.Lost)
		checkHeld(t, p, id, 0)
		refuseTake(t, p, id, -1, api.ErrArg)
		checkHead(t, p, id, head)
		take(t, p, id, 0, "")
		take(t, p, id, 9, "")
	}
}

func TestLostAheadOfBeingShown(t *testing.T) {
	p := start(t, bare)
	ask(t, p, 0, "bytes=1-", 0)
	for range bare.Tries {
		next(t, p, 0, anyOf(0, 4))
		fail(t, p, 0)
	}
	checkLost(t, p, 0, api.Head{Status: 502})

	p = bound(t, bare, "", 10)
	checkHeld(t, p, 0, 4)
	for range bare.Tries {
		next(t, p, 0, of7(10, 4, 4))
		fail(t, p, 0)
	}
	checkLost(t, p, 0, api.Head{Status: 502})
	idle(t, p, 0)
}

// Take shows it too, but that it was lost ahead of that is so once and for all.
func TestLostAndThenTaken(t *testing.T) {
	p := bound(t, bare, "", 10)
	for range bare.Tries {
		next(t, p, 0, of7(10, 4, 4))
		fail(t, p, 0)
	}
	take(t, p, 0, 9, "")
	checkLost(t, p, 0, api.Head{Status: 502})
}

func TestLostBehindBeingShown(t *testing.T) {
	for _, show := range []func(p *Proxy){
		func(p *Proxy) { p.Head(0) },
		func(p *Proxy) { p.Take(0, 0) },
		func(p *Proxy) { p.Take(0, 2) },
	} {
		p := bound(t, bare, "bytes=1-8", 10)
		show(p)
		checkHeld(t, p, 0, 4)
		for range bare.Tries {
			next(t, p, 0, of7(10, 4, 4))
			fail(t, p, 0)
		}
		checkLost(t, p, 0, api.Head{Status: 206, Tag: 7, Total: 10, From: 1, Len: 8})
		idle(t, p, 0)
	}
}

// A lost transfer is not found again: neither by its block, which another wants, nor by a new version.
func TestLostStaysLost(t *testing.T) {
	p := start(t, bare)
	ask(t, p, 0, "", 0)
	for range bare.Tries {
		next(t, p, 0, anyOf(0, 4))
		fail(t, p, 0)
	}
	ask(t, p, 0, "", 1)
	next(t, p, 0, anyOf(0, 4))
	reply(t, p, 0, 7, 10, 0, "abcd")
	checkState(t, p, 1, api.Going)
	checkLost(t, p, 0, api.Head{Status: 502})
	for range bare.Tries {
		next(t, p, 0, of7(10, 4, 4))
		fail(t, p, 0)
	}
	ask(t, p, 0, "", 2)
	next(t, p, 0, of7(10, 0, 4))
	reply(t, p, 0, 7, 10, 0, "abcd")
	next(t, p, 0, of7(10, 4, 4))
	reply(t, p, 0, 8, 6, 4, "EF")
	checkHead(t, p, 2, api.Head{Status: 200, Tag: 8, Total: 6, Len: 6})
	checkLost(t, p, 0, api.Head{Status: 502})
	checkLost(t, p, 1, api.Head{Status: 502})
}

func TestHeldAsBlocksComeAndGo(t *testing.T) {
	p := bound(t, bare, "bytes=1-9", 10)
	checkHeld(t, p, 0, 4)
	next(t, p, 0, of7(10, 4, 4))
	checkHeld(t, p, 0, 4)
	reply(t, p, 0, 7, 10, 4, "efgh")
	checkHeld(t, p, 0, 8)
	take(t, p, 0, 2, "bc") // a block counts whole until its last byte was taken
	checkHeld(t, p, 0, 8)
	take(t, p, 0, 1, "d")
	checkHeld(t, p, 0, 4)
	next(t, p, 0, of7(10, 8, 2))
	reply(t, p, 0, 7, 10, 8, "ij")
	checkHeld(t, p, 0, 6)
	take(t, p, 0, 4, "efgh")
	checkHeld(t, p, 0, 2)
	take(t, p, 0, 1, "i")
	checkHeld(t, p, 0, 2)
	take(t, p, 0, 1, "j")
	checkHeld(t, p, 0, 0)
	checkState(t, p, 0, api.Done)
}

// All is let go behind the last byte of the range, though its block has more.
func TestHeldBehindTheLastByte(t *testing.T) {
	p := bound(t, bare, "bytes=0-1", 10)
	checkHeld(t, p, 0, 4)
	take(t, p, 0, 1, "a")
	checkHeld(t, p, 0, 4)
	take(t, p, 0, 9, "b")
	checkHeld(t, p, 0, 0)
	idle(t, p, 0)
}

// P11: at the bounds too a transfer holds no more than Window times Block.
func TestHeldAtMost(t *testing.T) {
	s := api.Settings{Mirrors: 3, Block: 16, Window: 4, Cache: 0, Tries: 1}
	p := bound(t, s, "", 1000)
	for k := 1; k < 4; k++ {
		checkHeld(t, p, 0, k*16)
		next(t, p, 0, of7(1000, k*16, 16))
		reply(t, p, 0, 7, 1000, k*16, strings.Repeat("x", 16))
	}
	checkHeld(t, p, 0, 64)
	idle(t, p, 0)
}

// P7

func TestTakeInOrderOverBlocks(t *testing.T) {
	for n := 1; n <= 11; n++ {
		for size := 1; size <= 11; size++ {
			for window := 1; window <= 4; window++ {
				s := api.Settings{Mirrors: 1, Block: size, Window: window, Cache: 0, Tries: 1}
				all, answers := takeAll(t, bound(t, s, "bytes=2-9", 11), letters[:11], n)
				if all != letters[2:10] {
					t.Errorf("%+v, %d at a time: %q", s, n, all)
				}
				for _, a := range answers {
					if len(a) > n {
						t.Errorf("%+v, %d at a time: Take answered %q", s, n, a)
					}
				}
			}
		}
	}
}

// takeAll lets the one mirror answer all its errands out of the text, and takes all that is held, n bytes at a time.
func takeAll(t *testing.T, p *Proxy, text string, n int) (string, []string) {
	t.Helper()
	all := ""
	var answers []string
	for range 3 * api.MaxTotal {
		f, is, _ := p.Next(0)
		if is {
			reply(t, p, 0, f.Tag, f.Total, f.Offset, text[f.Offset:f.Offset+f.Len])
			continue
		}
		a, e := p.Take(0, n)
		if e != api.OK {
			t.Fatalf("Take(0, %d): %d", n, e)
		}
		if a == "" {
			break
		}
		all += a
		answers = append(answers, a)
	}
	checkState(t, p, 0, api.Done)
	return all, answers
}

// What is taken at once ends with the blocks that are held, not at the end of one of them.
func TestTakeAtMost(t *testing.T) {
	s := api.Settings{Mirrors: 1, Block: 4, Window: 3, Cache: 0, Tries: 1}
	for _, c := range []struct {
		n    int
		want string
	}{
		{0, ""}, {1, "c"}, {2, "cd"}, {3, "cde"}, {6, "cdefgh"}, {7, "cdefghi"}, {9, "cdefghijk"}, {10, "cdefghijkl"}, {11, "cdefghijkl"}, {math.MaxInt, "cdefghijkl"},
	} {
		p := bound(t, s, "bytes=2-", 20)
		for _, k := range []int{4, 8} {
			next(t, p, 0, of7(20, k, 4))
			reply(t, p, 0, 7, 20, k, letters[k:k+4])
		}
		idle(t, p, 0)
		take(t, p, 0, c.n, c.want)
		take(t, p, 0, 0, "")
		take(t, p, 0, math.MaxInt, "cdefghijkl"[len(c.want):])
		take(t, p, 0, math.MaxInt, "")
	}
}

func TestTakeBelowNought(t *testing.T) {
	p := bound(t, bare, "", 10)
	for _, n := range []int{-1, -2, math.MinInt32, math.MinInt} {
		refuseTake(t, p, 0, n, api.ErrArg)
		refuseTake(t, p, 1, n, api.ErrId)
	}
	take(t, p, 0, 9, "abcd")
}

// No byte is given out ahead of one that is missing.
func TestTakeStopsAtAGap(t *testing.T) {
	s := api.Settings{Mirrors: 3, Block: 4, Window: 3, Cache: 0, Tries: 1}
	p := bound(t, s, "", 12)
	next(t, p, 0, of7(12, 4, 4))
	next(t, p, 1, of7(12, 8, 4))
	reply(t, p, 1, 7, 12, 8, "ijkl")
	checkHeld(t, p, 0, 8)
	take(t, p, 0, 99, "abcd")
	take(t, p, 0, 99, "")
	checkHeld(t, p, 0, 4)
	reply(t, p, 0, 7, 12, 4, "efgh")
	take(t, p, 0, 99, "efghijkl")
	checkState(t, p, 0, api.Done)
}

// A block that comes when the window has moved on, or that was taken by then, is not held.
func TestBlockBehindTheWindow(t *testing.T) {
	p := start(t, bare)
	ask(t, p, 0, "", 0)
	next(t, p, 0, anyOf(0, 4))
	reply(t, p, 0, 7, 10, 0, "abcd")
	ask(t, p, 0, "", 1)
	take(t, p, 0, 4, "abcd")
	next(t, p, 0, of7(10, 4, 4))
	next(t, p, 1, of7(10, 8, 2))
	reply(t, p, 0, 7, 10, 4, "efgh")
	take(t, p, 0, 4, "efgh")
	next(t, p, 0, of7(10, 0, 4)) // for transfer 1 alone: transfer 0 has had it
	reply(t, p, 0, 7, 10, 0, "abcd")
	checkHeld(t, p, 0, 0)
	checkHeld(t, p, 1, 8)
	reply(t, p, 1, 7, 10, 8, "ij")
	checkHeld(t, p, 0, 2)
	checkHeld(t, p, 1, 8) // and its window does not reach to block 2 yet
	take(t, p, 0, 9, "ij")
	take(t, p, 1, 9, "abcdefgh")
	next(t, p, 1, of7(10, 8, 2))
	reply(t, p, 1, 7, 10, 8, "ij")
	checkHeld(t, p, 0, 0)
	take(t, p, 1, 9, "ij")
}

// Transfers take their bytes each for itself.
func TestTakeOfSeveral(t *testing.T) {
	p := start(t, bare)
	ask(t, p, 0, "", 0)
	ask(t, p, 0, "bytes=1-2", 1)
	next(t, p, 0, anyOf(0, 4))
	reply(t, p, 0, 7, 10, 0, "abcd")
	checkHeld(t, p, 0, 4)
	checkHeld(t, p, 1, 4)
	take(t, p, 1, 9, "bc")
	checkState(t, p, 1, api.Done)
	checkHeld(t, p, 1, 0)
	checkHeld(t, p, 0, 4)
	take(t, p, 0, 1, "a")
	take(t, p, 1, 1, "")
	take(t, p, 0, 9, "bcd")
}

// A long text that Body was cut out of is not kept for the sake of a few bytes.
func TestBodyIsCopied(t *testing.T) {
	body := strings.Repeat(letters, 1000)[26:30]
	p := start(t, bare)
	ask(t, p, 0, "", 0)
	next(t, p, 0, anyOf(0, 4))
	reply(t, p, 0, 7, 10, 0, body)
	if unsafe.StringData(p.transfers[0].held[0]) == unsafe.StringData(body) {
		t.Error("a transfer keeps the caller's text")
	}
	take(t, p, 0, 9, "abcd")
}
