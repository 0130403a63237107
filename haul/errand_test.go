package haul

import (
	"math"
	"testing"

	"haul/api"
)

// three has a mirror more than bare, and more failures to spare.
var three = api.Settings{Mirrors: 3, Block: 4, Window: 2, Cache: 0, Tries: 4}

// of8: what a mirror is sent for, if the version has the tag 8 and the path is 0.
func of8(total, offset, count int) api.Fetch {
	return api.Fetch{Tag: 8, Total: total, Offset: offset, Len: count}
}

// P8

func TestNextOfNoMirror(t *testing.T) {
	for mirrors := 1; mirrors <= api.MaxMirrors; mirrors++ {
		s := bare
		s.Mirrors = mirrors
		p := start(t, s)
		ask(t, p, 0, "", 0)
		for _, m := range []int{-1, mirrors, mirrors + 1, api.MaxMirrors, math.MaxInt32, math.MinInt32, math.MaxInt, math.MinInt} {
			refuseNext(t, p, m, api.ErrMirror)
			refuseEnd(t, p, m, api.ErrMirror)
		}
		next(t, p, mirrors-1, anyOf(0, 4))
		refuseNext(t, p, mirrors, api.ErrMirror)
		refuseEnd(t, p, mirrors, api.ErrMirror)
	}
}

func TestNextOfABusyMirror(t *testing.T) {
	p := start(t, bare)
	ask(t, p, 0, "", 0)
	ask(t, p, 1, "", 1)
	next(t, p, 1, anyOf(0, 4))
	for range 3 {
		refuseNext(t, p, 1, api.ErrBusy)
	}
	next(t, p, 0, anyOf(1, 4))
	refuseNext(t, p, 0, api.ErrBusy)
	fail(t, p, 1)
	refuseNext(t, p, 0, api.ErrBusy)
	next(t, p, 1, anyOf(0, 4))
	reply(t, p, 1, 7, 10, 0, "abcd")
	refuseNext(t, p, 0, api.ErrBusy)
	next(t, p, 1, of7(10, 4, 4))
	refuseNext(t, p, 1, api.ErrBusy)
}

func TestNextWhereNothingIsWanted(t *testing.T) {
	p := start(t, bare)
	idle(t, p, 0)
	ask(t, p, 0, "bytes=0-3", 0)
	next(t, p, 0, anyOf(0, 4))
	idle(t, p, 1)
	reply(t, p, 0, 7, 10, 0, "abcd")
	idle(t, p, 0)
	take(t, p, 0, 9, "abcd")
	idle(t, p, 0)
	idle(t, p, 1)
}

// The mirror 0 that is idle is not taken for one with an errand for block 0 of any version of the path 0.
func TestIdleMirrorHasNoErrand(t *testing.T) {
	p := start(t, bare)
	ask(t, p, 0, "", 0)
	next(t, p, 1, anyOf(0, 4))
	fail(t, p, 1)
	next(t, p, 0, anyOf(0, 4))
}

func TestNextGoesByTransfersThenBlocks(t *testing.T) {
	s := api.Settings{Mirrors: 3, Block: 4, Window: 3, Cache: 0, Tries: 4}
	p := start(t, s)
	ask(t, p, 0, "bytes=5-", 0)
	next(t, p, 0, anyOf(0, 4))
	reply(t, p, 0, 7, 26, 0, "abcd")
	ask(t, p, 0, "", 1)
	ask(t, p, 3, "", 2)
	next(t, p, 2, of7(26, 4, 4))
	next(t, p, 0, of7(26, 8, 4))
	next(t, p, 1, of7(26, 12, 4))
	reply(t, p, 0, 7, 26, 8, "ijkl")
	next(t, p, 0, of7(26, 0, 4)) // transfer 0 wants nothing more; then block 0 of transfer 1
	reply(t, p, 1, 7, 26, 12, "mnop")
	next(t, p, 1, anyOf(3, 4)) // for block 1 there is a mirror under way, block 2 is held
	fail(t, p, 2)
	next(t, p, 2, of7(26, 4, 4)) // what failed is the first again
	reply(t, p, 2, 7, 26, 4, "efgh")
	idle(t, p, 2)
	take(t, p, 0, 3, "fgh")
	next(t, p, 2, of7(26, 16, 4))
}

func TestNextOfTheLastBlock(t *testing.T) {
	for _, c := range []struct{ total, offset, count int }{{9, 8, 1}, {10, 8, 2}, {11, 8, 3}, {12, 8, 4}, {8, 4, 4}, {1000, 996, 4}, {999, 996, 3}} {
		p := bound(t, bare, "bytes=-1", c.total)
		next(t, p, 0, of7(c.total, c.offset, c.count))
		idle(t, p, 1)
	}
}

// The window ends with the block of the range's last byte, not with the object's last block.
func TestNextAtTheEndOfTheRange(t *testing.T) {
	for _, c := range []struct {
		ranges string
		blocks int
	}{
		{"bytes=3-3", 1}, {"bytes=3-4", 2}, {"bytes=3-7", 2}, {"bytes=3-8", 3}, {"bytes=3-11", 3}, {"bytes=3-12", 4}, {"bytes=3-16", 4}, {"bytes=3-", 4},
	} {
		s := bare
		s.Window = 4
		p := bound(t, s, c.ranges, 26)
		for k := 1; k < c.blocks; k++ {
			next(t, p, 0, of7(26, k*4, 4))
			reply(t, p, 0, 7, 26, k*4, letters[k*4:k*4+4])
		}
		idle(t, p, 0)
	}
}

func TestNoTwoMirrorsForTheSame(t *testing.T) {
	s := api.Settings{Mirrors: 3, Block: 4, Window: 1, Cache: 0, Tries: 4}
	p := start(t, s)
	ask(t, p, 1, "", 0)
	ask(t, p, 1, "bytes=9-", 1)
	next(t, p, 0, anyOf(1, 4)) // for both, as both want block 0 of any version
	idle(t, p, 1)
	ask(t, p, 2, "", 2)
	next(t, p, 1, anyOf(2, 4)) // another path
	idle(t, p, 2)
	reply(t, p, 0, 7, 10, 0, "abcd")
	take(t, p, 0, 9, "abcd")
	ask(t, p, 1, "bytes=4-", 3)
	next(t, p, 0, api.Fetch{Path: 1, Tag: 7, Total: 10, Offset: 4, Len: 4}) // for the transfers 0 and 3
	next(t, p, 2, api.Fetch{Path: 1, Tag: 7, Total: 10, Offset: 8, Len: 2}) // for transfer 1
	reply(t, p, 1, 7, 10, 0, "abcd")                                        // the path 2 has the same version now
	checkHead(t, p, 2, api.Head{Status: 200, Tag: 7, Total: 10, Len: 10})
	take(t, p, 2, 9, "abcd")
	next(t, p, 1, api.Fetch{Path: 2, Tag: 7, Total: 10, Offset: 4, Len: 4}) // the same version and block, another path
	reply(t, p, 0, 7, 10, 4, "efgh")
	checkHeld(t, p, 0, 4)
	checkHeld(t, p, 3, 4)
	checkHeld(t, p, 2, 0)
}

// The same block of two versions is two errands: with another total alone, and with another tag alone.
func TestSameBlockOfTwoVersions(t *testing.T) {
	for _, v := range []version{{tag: 7, total: 12}, {tag: 8, total: 10}} {
		p := bound(t, three, "bytes=4-", 10)
		take(t, p, 0, 0, "")
		next(t, p, 0, of7(10, 4, 4))
		reply(t, p, 0, v.tag, v.total, 4, "EFGH")
		ask(t, p, 0, "bytes=4-", 1)
		next(t, p, 0, of7(10, 4, 4))
		next(t, p, 1, of7(10, 8, 2))
		next(t, p, 2, api.Fetch{Tag: v.tag, Total: v.total, Offset: 4, Len: 4})
		reply(t, p, 2, v.tag, v.total, 4, "EFGH")
		checkHeld(t, p, 0, 0)
		take(t, p, 1, 9, "EFGH")
		reply(t, p, 0, 7, 10, 4, "efgh")
		take(t, p, 0, 9, "efgh")
		checkHeld(t, p, 1, 0)
	}
}

// P9

func TestEndOfNoErrand(t *testing.T) {
	p := start(t, bare)
	ask(t, p, 0, "", 0)
	refuseEnd(t, p, 0, api.ErrIdle)
	next(t, p, 0, anyOf(0, 4))
	refuseEnd(t, p, 1, api.ErrIdle)
	fail(t, p, 0)
	refuseEnd(t, p, 0, api.ErrIdle)
	next(t, p, 0, anyOf(0, 4))
	reply(t, p, 0, 7, 10, 0, "abcd")
	refuseEnd(t, p, 0, api.ErrIdle)
	next(t, p, 0, of7(10, 4, 4))
	reply(t, p, 0, 7, 10, 4, "not sensible")
	refuseEnd(t, p, 0, api.ErrIdle)
	checkHead(t, p, 0, api.Head{Status: 200, Tag: 7, Total: 10, Len: 10})
}

var notSensible = []api.Reply{
	{},
	{Tag: 0, Total: 10, Body: "abcd"}, {Tag: -1, Total: 10, Body: "abcd"}, {Tag: 100, Total: 10, Body: "abcd"}, {Tag: -7, Total: 10, Body: "abcd"},
	{Tag: math.MaxInt, Total: 10, Body: "abcd"}, {Tag: math.MinInt, Total: 10, Body: "abcd"},
	{Tag: 7, Total: -1}, {Tag: 7, Total: -1, Body: "abcd"}, {Tag: 7, Total: 1001, Body: "abcd"}, {Tag: 7, Total: math.MaxInt, Body: "abcd"}, {Tag: 7, Total: math.MinInt},
	{Tag: 7, Total: 10, Offset: 1, Body: "bcde"}, {Tag: 7, Total: 10, Offset: -1, Body: "abcd"}, {Tag: 7, Total: 10, Offset: -4, Body: "abcd"}, {Tag: 7, Total: 10, Offset: 4, Body: "efgh"}, {Tag: 7, Total: 10, Offset: 8, Body: "ij"},
	{Tag: 7, Total: 10, Offset: math.MaxInt, Body: "abcd"}, {Tag: 7, Total: 10, Offset: math.MinInt, Body: "abcd"}, {Tag: 7, Total: 10, Offset: 12},
	{Tag: 7, Total: 10}, {Tag: 7, Total: 10, Body: "a"}, {Tag: 7, Total: 10, Body: "abc"}, {Tag: 7, Total: 10, Body: "abcde"}, {Tag: 7, Total: 10, Body: "abcdefghij"},
	{Tag: 7, Total: 3, Body: "ab"}, {Tag: 7, Total: 3, Body: "abcd"}, {Tag: 7, Total: 3}, {Tag: 7, Total: 1}, {Tag: 7, Total: 0, Body: "a"}, {Tag: 7, Total: 0, Body: "abcd"},
}

// A reply that is not sensible is a failure and nothing else: no version, no block.
func TestNotSensibleForAnyVersion(t *testing.T) {
	for _, r := range notSensible {
		p := start(t, bare)
		ask(t, p, 0, "", 0)
		for range bare.Tries {
			checkOpen(t, p, 0)
			next(t, p, 0, anyOf(0, 4))
			if e := p.Reply(0, r); e != api.OK {
				t.Errorf("Reply(0, %+v): %d", r, e)
			}
		}
		checkLost(t, p, 0, api.Head{Status: 502})
		ask(t, p, 0, "", 1)
		checkOpen(t, p, 1)
	}
}

func TestNotSensibleForAVersion(t *testing.T) {
	for _, r := range []api.Reply{
		{Tag: 0, Total: 10, Offset: 8, Body: "ij"}, {Tag: 100, Total: 10, Offset: 8, Body: "ij"}, {Tag: 7, Total: 1001, Offset: 8, Body: "ijkl"}, {Tag: 7, Total: -1, Offset: 8},
		{Tag: 7, Total: 10, Offset: 0, Body: "abcd"}, {Tag: 7, Total: 10, Offset: 4, Body: "efgh"}, {Tag: 7, Total: 10, Offset: 2, Body: "ij"}, {Tag: 7, Total: 10, Offset: 9, Body: "j"}, {Tag: 7, Total: 10, Offset: 12}, {Tag: 7, Total: 10, Offset: -8, Body: "ij"},
		{Tag: 7, Total: 10, Offset: 8}, {Tag: 7, Total: 10, Offset: 8, Body: "i"}, {Tag: 7, Total: 10, Offset: 8, Body: "ijk"}, {Tag: 7, Total: 10, Offset: 8, Body: "ijkl"},
		{Tag: 8, Total: 8, Offset: 8, Body: "ij"}, {Tag: 8, Total: 8, Offset: 8, Body: "ijkl"}, {Tag: 8, Total: 9, Offset: 8, Body: "ij"}, {Tag: 8, Total: 12, Offset: 8, Body: "ij"}, {Tag: 8, Total: 99, Offset: 8, Body: "ij"}, {Tag: 8, Total: 0, Offset: 8, Body: "ij"}, {Tag: 8, Total: 4, Offset: 8, Body: "ij"},
	} {
		p := bound(t, bare, "bytes=8-", 10)
		for range bare.Tries {
			checkState(t, p, 0, api.Going)
			checkHeld(t, p, 0, 0)
			next(t, p, 0, of7(10, 8, 2))
			if e := p.Reply(0, r); e != api.OK {
				t.Errorf("Reply(0, %+v): %d", r, e)
			}
		}
		checkState(t, p, 0, api.Lost)
		ask(t, p, 0, "", 1)
		checkHead(t, p, 1, api.Head{Status: 200, Tag: 7, Total: 10, Len: 10})
	}
}

// Sensible at the bounds of a version's numbers, and where the block is just there, short or not there.
func TestSensibleAtTheBounds(t *testing.T) {
	for _, r := range []api.Reply{
		{Tag: 1, Total: 0}, {Tag: 99, Total: 0}, {Tag: 1, Total: 1, Body: "a"}, {Tag: 99, Total: 3, Body: "abc"}, {Tag: 1, Total: 4, Body: "abcd"}, {Tag: 99, Total: 5, Body: "abcd"}, {Tag: 1, Total: 1000, Body: "abcd"}, {Tag: 99, Total: 1000, Body: "\x00\xff\x80\n"},
	} {
		p := start(t, bare)
		ask(t, p, 0, "", 0)
		next(t, p, 0, anyOf(0, 4))
		reply(t, p, 0, r.Tag, r.Total, r.Offset, r.Body)
		checkHeld(t, p, 0, len(r.Body))
		checkHead(t, p, 0, api.Head{Status: 200, Tag: r.Tag, Total: r.Total, Len: r.Total})
		take(t, p, 0, 9, r.Body)
	}
}

func TestDeliveredToAllWhoWantIt(t *testing.T) {
	p := start(t, bare)
	ask(t, p, 0, "", 0)
	ask(t, p, 1, "", 1)
	next(t, p, 0, anyOf(0, 4))
	next(t, p, 1, anyOf(1, 4))
	reply(t, p, 0, 7, 20, 0, "abcd")
	reply(t, p, 1, 7, 20, 0, "ABCD")
	ask(t, p, 0, "bytes=4-5", 2)
	ask(t, p, 0, "bytes=8-", 3)
	next(t, p, 0, of7(20, 4, 4))
	reply(t, p, 0, 7, 20, 4, "efgh")
	checkHeld(t, p, 0, 8)
	checkHeld(t, p, 1, 4) // another path
	checkHeld(t, p, 2, 4)
	checkHeld(t, p, 3, 0) // another block
	take(t, p, 0, 9, "abcdefgh")
	take(t, p, 1, 9, "ABCD")
	take(t, p, 2, 9, "ef")
	take(t, p, 3, 9, "")
}

// A block that is held already is not taken from a later reply. Two mirrors can have been sent for it, if one of
// them answers with another version than it was asked for.
func TestFirstReplyCounts(t *testing.T) {
	p := bound(t, three, "bytes=4-", 12)
	take(t, p, 0, 0, "")
	next(t, p, 0, of7(12, 4, 4))
	next(t, p, 1, of7(12, 8, 4))
	reply(t, p, 1, 8, 12, 8, "IJKL")
	ask(t, p, 0, "", 1)
	next(t, p, 1, of7(12, 8, 4))
	reply(t, p, 1, 7, 12, 8, "ijkl")
	next(t, p, 1, of8(12, 0, 4))
	next(t, p, 2, of8(12, 4, 4))
	reply(t, p, 2, 7, 12, 4, "efgh") // it is the latest version again, and transfer 1 follows
	checkHead(t, p, 1, api.Head{Status: 200, Tag: 7, Total: 12, Len: 12})
	checkHeld(t, p, 0, 8)
	checkHeld(t, p, 1, 4)
	reply(t, p, 0, 7, 12, 4, "EFGH")
	take(t, p, 0, 9, "efghijkl")
	reply(t, p, 1, 7, 12, 0, "abcd")
	take(t, p, 1, 9, "abcdefgh")
}

// An errand for any version binds every open transfer of the path, and no other.
func TestAnyVersion(t *testing.T) {
	p := start(t, bare)
	ask(t, p, 0, "", 0)
	ask(t, p, 1, "", 1)
	ask(t, p, 0, "bytes=5-", 2)
	ask(t, p, 0, "bytes=-2", 3)
	next(t, p, 0, anyOf(0, 4))
	ask(t, p, 0, "bytes=10-", 4) // it was asked for behind the errand, and is open all the same
	reply(t, p, 0, 7, 10, 0, "abcd")
	checkHeld(t, p, 0, 4)
	checkHeld(t, p, 2, 0)
	checkHeld(t, p, 3, 0)
	checkState(t, p, 4, api.Done)
	checkHead(t, p, 0, api.Head{Status: 200, Tag: 7, Total: 10, Len: 10})
	checkHead(t, p, 2, api.Head{Status: 206, Tag: 7, Total: 10, From: 5, Len: 5})
	checkHead(t, p, 3, api.Head{Status: 206, Tag: 7, Total: 10, From: 8, Len: 2})
	checkHead(t, p, 4, api.Head{Status: 416, Tag: 7, Total: 10})
	checkOpen(t, p, 1)
}

// A version without bytes leaves nothing to deliver, but it is a version.
func TestReplyWithoutBytes(t *testing.T) {
	p := start(t, bare)
	ask(t, p, 0, "", 0)
	ask(t, p, 0, "bytes=0-", 1)
	next(t, p, 0, anyOf(0, 4))
	reply(t, p, 0, 7, 0, 0, "")
	checkState(t, p, 0, api.Done)
	checkState(t, p, 1, api.Done)
	checkHead(t, p, 0, api.Head{Status: 200, Tag: 7})
	checkHead(t, p, 1, api.Head{Status: 416, Tag: 7})

	p = bound(t, bare, "bytes=8-", 10)
	ask(t, p, 0, "", 1)
	next(t, p, 0, of7(10, 8, 2))
	reply(t, p, 0, 8, 8, 8, "") // the object ends just ahead of that block
	checkHeld(t, p, 0, 0)
	checkHeld(t, p, 1, 0)
	checkHead(t, p, 0, api.Head{Status: 416, Tag: 8, Total: 8})
	checkHead(t, p, 1, api.Head{Status: 200, Tag: 8, Total: 8, Len: 8})
}

func TestNewVersion(t *testing.T) {
	p := start(t, three)
	ask(t, p, 0, "", 0)          // will be shown
	ask(t, p, 0, "bytes=0-", 1)  // will not
	ask(t, p, 0, "bytes=10-", 2) // nor this one, which is done
	ask(t, p, 1, "", 3)          // another path, with the same version
	ask(t, p, 2, "", 4)          // open
	next(t, p, 0, anyOf(0, 4))   // for the transfers 0 to 2
	next(t, p, 1, anyOf(1, 4))   // for transfer 3
	reply(t, p, 0, 7, 10, 0, "abcd")
	reply(t, p, 1, 7, 10, 0, "1234")
	take(t, p, 0, 1, "a")
	checkState(t, p, 2, api.Done)
	next(t, p, 0, of7(10, 4, 4))
	next(t, p, 1, api.Fetch{Path: 1, Tag: 7, Total: 10, Offset: 4, Len: 4})
	reply(t, p, 0, 8, 11, 4, "EFGH")

	checkHeld(t, p, 0, 4)
	take(t, p, 0, 9, "bcd")
	checkHead(t, p, 0, api.Head{Status: 200, Tag: 7, Total: 10, Len: 10})

	checkHeld(t, p, 1, 4) // the new block, and no longer the old one
	take(t, p, 1, 9, "")
	checkHead(t, p, 1, api.Head{Status: 206, Tag: 8, Total: 11, Len: 11})

	checkState(t, p, 2, api.Going)
	checkHead(t, p, 2, api.Head{Status: 206, Tag: 8, Total: 11, From: 10, Len: 1})

	checkHeld(t, p, 3, 4)
	take(t, p, 3, 9, "1234")
	checkHead(t, p, 3, api.Head{Status: 200, Tag: 7, Total: 10, Len: 10})

	checkOpen(t, p, 4)
	reply(t, p, 1, 7, 10, 4, "5678")
	take(t, p, 3, 9, "5678")

	next(t, p, 0, of7(10, 4, 4))
	reply(t, p, 0, 7, 10, 4, "efgh")
	next(t, p, 0, of7(10, 8, 2))
	next(t, p, 1, of8(11, 0, 4))
	reply(t, p, 1, 8, 11, 0, "ABCD")
	take(t, p, 0, 9, "efgh")
	take(t, p, 1, 9, "ABCDEFGH")
}

// The same tag with another total, and the same total with another tag, are other versions.
func TestAnotherVersionByOneNumber(t *testing.T) {
	for _, v := range []version{{tag: 7, total: 11}, {tag: 8, total: 10}} {
		p := bound(t, bare, "", 10)
		next(t, p, 0, of7(10, 4, 4))
		reply(t, p, 0, v.tag, v.total, 4, "EFGH")
		checkHeld(t, p, 0, 4)
		take(t, p, 0, 9, "")
		checkHead(t, p, 0, api.Head{Status: 200, Tag: v.tag, Total: v.total, Len: v.total})
	}
}

// A transfer that has the new version already is not bound to it again: it keeps its blocks and its failure.
func TestVersionThatATransferHas(t *testing.T) {
	p := bound(t, three, "bytes=4-", 14)
	take(t, p, 0, 0, "")
	next(t, p, 0, of7(14, 4, 4))
	reply(t, p, 0, 8, 14, 4, "EFGH")
	ask(t, p, 0, "bytes=0-7", 1)
	next(t, p, 0, of7(14, 4, 4))
	next(t, p, 1, of7(14, 8, 4))
	next(t, p, 2, of8(14, 0, 4))
	reply(t, p, 2, 8, 14, 0, "ABCD")
	for range three.Tries - 1 {
		next(t, p, 2, of8(14, 4, 4))
		fail(t, p, 2)
	}
	reply(t, p, 1, 8, 14, 8, "IJKL") // transfer 1 does not want it
	checkState(t, p, 1, api.Going)
	checkHeld(t, p, 1, 4)
	next(t, p, 1, of7(14, 8, 4))
	next(t, p, 2, of8(14, 4, 4))
	fail(t, p, 2)
	checkState(t, p, 1, api.Lost)
	checkState(t, p, 0, api.Going)
}

// To be bound sets failures back to none, for one too that does not get the block.
func TestBoundWithoutFailures(t *testing.T) {
	p := start(t, bare)
	ask(t, p, 0, "bytes=8-9", 0)
	next(t, p, 0, anyOf(0, 4))
	fail(t, p, 0)
	next(t, p, 0, anyOf(0, 4))
	reply(t, p, 0, 7, 10, 0, "abcd")
	next(t, p, 0, of7(10, 8, 2))
	fail(t, p, 0)
	checkState(t, p, 0, api.Going)

	ask(t, p, 0, "bytes=4-7", 1)
	next(t, p, 0, of7(10, 8, 2))
	next(t, p, 1, of7(10, 4, 4))
	reply(t, p, 1, 8, 10, 4, "EFGH")
	fail(t, p, 0) // nobody wants that version any more
	next(t, p, 0, of8(10, 8, 2))
	fail(t, p, 0)
	checkState(t, p, 0, api.Going)
	next(t, p, 0, of8(10, 8, 2))
	fail(t, p, 0)
	checkState(t, p, 0, api.Lost)
	take(t, p, 1, 9, "EFGH")
}

// For a transfer that was shown, another version than its own is a failure, whatever comes with it.
func TestAnotherVersionFails(t *testing.T) {
	for _, r := range []api.Reply{{Tag: 8, Total: 10, Offset: 4, Body: "EFGH"}, {Tag: 7, Total: 9, Offset: 4, Body: "EFGH"}, {Tag: 7, Total: 5, Offset: 4, Body: "E"}, {Tag: 7, Total: 4, Offset: 4}, {Tag: 8, Total: 0, Offset: 4}} {
		p := bound(t, bare, "", 10)
		head := api.Head{Status: 200, Tag: 7, Total: 10, Len: 10}
		checkHead(t, p, 0, head)
		for range bare.Tries {
			checkState(t, p, 0, api.Going)
			checkHeld(t, p, 0, 4)
			next(t, p, 0, of7(10, 4, 4))
			reply(t, p, 0, r.Tag, r.Total, r.Offset, r.Body)
		}
		checkLost(t, p, 0, head)
		ask(t, p, 0, "", 1)
		checkHead(t, p, 1, api.Head{Status: 200, Tag: r.Tag, Total: r.Total, Len: r.Total})
	}
}

// The errand's failure comes behind the new version, and ahead of the delivery: it is for those alone that have
// the old version still.
func TestFailureBehindTheNewVersion(t *testing.T) {
	s := bare
	s.Tries = 1
	p := bound(t, s, "", 10)
	next(t, p, 0, of7(10, 4, 4))
	reply(t, p, 0, 8, 10, 4, "EFGH")
	checkState(t, p, 0, api.Going)
	checkHeld(t, p, 0, 4)
	checkHead(t, p, 0, api.Head{Status: 200, Tag: 8, Total: 10, Len: 10})
	next(t, p, 0, of8(10, 0, 4))
	reply(t, p, 0, 7, 10, 0, "abcd")
	checkLost(t, p, 0, api.Head{Status: 200, Tag: 8, Total: 10, Len: 10})
}

// A failure counts for each transfer that wants the block, and for no other.
func TestWhoseFailure(t *testing.T) {
	s := three
	s.Tries = 1
	p := start(t, s)
	ask(t, p, 0, "bytes=0-11", 0)
	ask(t, p, 1, "", 1)
	next(t, p, 0, anyOf(0, 4))
	next(t, p, 1, anyOf(1, 4))
	reply(t, p, 0, 7, 20, 0, "abcd")
	reply(t, p, 1, 7, 20, 0, "abcd")
	ask(t, p, 0, "bytes=4-", 2)  // wants block 1 too
	ask(t, p, 0, "bytes=8-", 3)  // another block
	ask(t, p, 0, "bytes=0-3", 4) // and one ahead of it
	ask(t, p, 2, "", 5)          // open, of another path
	next(t, p, 0, of7(20, 4, 4))
	fail(t, p, 0)
	checkState(t, p, 0, api.Lost)
	checkState(t, p, 1, api.Going) // the same version and block of another path
	checkState(t, p, 2, api.Lost)
	checkState(t, p, 3, api.Going)
	checkState(t, p, 4, api.Going)
	checkState(t, p, 5, api.Open)
}

func TestWhoseFailureOfAnyVersion(t *testing.T) {
	s := three
	s.Tries = 1
	p := start(t, s)
	ask(t, p, 1, "", 0)
	next(t, p, 0, anyOf(1, 4))
	reply(t, p, 0, 7, 20, 0, "abcd")
	ask(t, p, 0, "", 1)
	ask(t, p, 2, "", 2)
	ask(t, p, 0, "bytes=9-", 3)
	next(t, p, 0, api.Fetch{Path: 1, Tag: 7, Total: 20, Offset: 4, Len: 4})
	next(t, p, 1, anyOf(0, 4))
	next(t, p, 2, anyOf(2, 4))
	ask(t, p, 0, "", 4)
	fail(t, p, 1)
	checkState(t, p, 0, api.Going)
	checkState(t, p, 1, api.Lost)
	checkState(t, p, 2, api.Open)
	checkState(t, p, 3, api.Lost)
	checkState(t, p, 4, api.Lost)
	ask(t, p, 0, "", 5) // behind it the path has no version yet
	checkOpen(t, p, 5)
	next(t, p, 1, anyOf(0, 4))
}

// An errand that fails when nobody wants its block any more is nobody's failure.
func TestFailureOfWhatIsNotWanted(t *testing.T) {
	s := three
	s.Tries = 1
	p := bound(t, s, "", 12)
	next(t, p, 0, of7(12, 4, 4))
	reply(t, p, 0, 7, 12, 4, "efgh")
	take(t, p, 0, 4, "abcd")
	ask(t, p, 0, "bytes=4-7", 1)
	next(t, p, 0, of7(12, 8, 4))
	next(t, p, 1, of7(12, 4, 4)) // transfer 0 holds it
	fail(t, p, 1)
	checkState(t, p, 0, api.Going)
	checkState(t, p, 1, api.Lost)
	fail(t, p, 0)
	checkState(t, p, 0, api.Lost)
	idle(t, p, 0)
}

// A transfer's failures are counted over all its blocks, and a block that is delivered ends them all.
func TestFailuresOverBlocks(t *testing.T) {
	p := bound(t, bare, "bytes=4-", 12)
	next(t, p, 0, of7(12, 4, 4))
	next(t, p, 1, of7(12, 8, 4))
	fail(t, p, 0)
	checkState(t, p, 0, api.Going)
	fail(t, p, 1)
	checkState(t, p, 0, api.Lost)

	p = bound(t, bare, "bytes=4-", 12)
	next(t, p, 0, of7(12, 4, 4))
	fail(t, p, 0)
	next(t, p, 0, of7(12, 4, 4))
	next(t, p, 1, of7(12, 8, 4))
	reply(t, p, 1, 7, 12, 8, "ijkl")
	fail(t, p, 0)
	checkState(t, p, 0, api.Going)
	next(t, p, 0, of7(12, 4, 4))
	fail(t, p, 0)
	checkState(t, p, 0, api.Lost)
}

// One failure fewer than Tries at every block loses nothing.
func TestFailuresAgainAndAgain(t *testing.T) {
	p := bound(t, three, "", 26)
	for k := 4; k < 26; k += 4 {
		end := min(k+4, 26)
		for range three.Tries - 1 {
			next(t, p, 0, of7(26, k, end-k))
			fail(t, p, 0)
		}
		next(t, p, 0, of7(26, k, end-k))
		reply(t, p, 0, 7, 26, k, letters[k:end])
		take(t, p, 0, 4, letters[k-4:k])
	}
	take(t, p, 0, 4, "yz")
	checkState(t, p, 0, api.Done)
}

// What is delivered to one transfer does not set another's failures back.
func TestFailuresOfOneAlone(t *testing.T) {
	p := bound(t, bare, "bytes=4-7", 12)
	ask(t, p, 0, "bytes=8-", 1)
	next(t, p, 0, of7(12, 4, 4))
	next(t, p, 1, of7(12, 8, 4))
	fail(t, p, 0)
	reply(t, p, 1, 7, 12, 8, "ijkl")
	next(t, p, 0, of7(12, 4, 4))
	fail(t, p, 0)
	checkState(t, p, 0, api.Lost)
	checkState(t, p, 1, api.Going)
	take(t, p, 1, 9, "ijkl")
}

func TestTries(t *testing.T) {
	for tries := 1; tries <= api.MaxTries; tries++ {
		s := bare
		s.Tries = tries
		for _, nonsense := range []bool{false, true} {
			p := start(t, s)
			ask(t, p, 0, "", 0)
			for range tries {
				checkState(t, p, 0, api.Open)
				next(t, p, 0, anyOf(0, 4))
				miss(t, p, 0, nonsense)
			}
			checkLost(t, p, 0, api.Head{Status: 502})
			p = bound(t, s, "", 10)
			for range tries {
				checkState(t, p, 0, api.Going)
				checkHeld(t, p, 0, 4)
				next(t, p, 0, of7(10, 4, 4))
				miss(t, p, 0, nonsense)
			}
			checkLost(t, p, 0, api.Head{Status: 502})
		}
	}
}

func miss(t *testing.T, p *Proxy, mirror int, nonsense bool) {
	t.Helper()
	if nonsense {
		reply(t, p, mirror, 7, 10, 0, "x")
		return
	}
	fail(t, p, mirror)
}

// The calls of the document's examples.
func TestExamples(t *testing.T) {
	p := start(t, plain)
	x := func(offset, count int) api.Fetch {
		return api.Fetch{Path: 1, Tag: 7, Total: 10, Offset: offset, Len: count}
	}
	ask(t, p, 1, "bytes=2-6", 0)
	checkState(t, p, 0, api.Open)
	refuseHead(t, p, 0, api.ErrOpen)

	next(t, p, 0, anyOf(1, 4))
	refuseNext(t, p, 0, api.ErrBusy)
	idle(t, p, 1)

	reply(t, p, 0, 7, 10, 0, "abcd")
	checkState(t, p, 0, api.Going)

	take(t, p, 0, 9, "cd")
	checkHead(t, p, 0, api.Head{Status: 206, Tag: 7, Total: 10, From: 2, Len: 5})
	checkHeld(t, p, 0, 0)
	checkCache(t, p, in(1, 7, 10, 0))

	next(t, p, 1, x(4, 4))
	reply(t, p, 1, 7, 10, 4, "efgh")
	take(t, p, 0, 2, "ef")
	take(t, p, 0, 2, "g")

	checkState(t, p, 0, api.Done)
	checkCache(t, p, in(1, 7, 10, 0, 1))

	ask(t, p, 1, "bytes=-3", 1)
	take(t, p, 1, 9, "h")
	next(t, p, 0, x(8, 2))

	reply(t, p, 0, 7, 10, 8, "i")
	refuseEnd(t, p, 0, api.ErrIdle)

	next(t, p, 0, x(8, 2))
	reply(t, p, 0, 7, 10, 8, "ij")
	checkCache(t, p, in(1, 7, 10, 1, 2))
	take(t, p, 1, 9, "ij")

	ask(t, p, 1, "bytes=10-", 2)
	checkHead(t, p, 2, api.Head{Status: 416, Tag: 7, Total: 10})

	ask(t, p, 1, "bytes=6-2", 3)
	checkState(t, p, 3, api.Going)
	next(t, p, 1, x(0, 4))

	reply(t, p, 1, 8, 3, 0, "xyz")
	checkHead(t, p, 3, api.Head{Status: 200, Tag: 8, Total: 3, Len: 3})

	take(t, p, 3, 9, "xyz")
	ask(t, p, 1, "", 4)
	take(t, p, 4, 9, "xyz")

	ask(t, p, 2, "", 5)
	next(t, p, 0, anyOf(2, 4))
	fail(t, p, 0)
	next(t, p, 0, anyOf(2, 4))
	fail(t, p, 0)
	checkHead(t, p, 5, api.Head{Status: 502})
}
