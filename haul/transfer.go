package haul

import (
	"haul/api"
	"haul/span"
)

const statusLost = 502

// transfer is what came of an Ask. It is open until it is bound; then its head tells its version.
type transfer struct {
	path     int
	ranges   span.Range
	bound    bool
	shown    bool
	lost     bool
	head     api.Head
	taken    int
	failures int
	// Block k is held at k modulo the length, which no two blocks of a window share. Where nothing is held
	// the text is empty, as no block is.
	held [api.MaxWindow]string
}

// bind is for transfers alone that were not shown: nothing was taken of them.
func (t *transfer) bind(v version) {
	t.bound = true
	t.head = t.ranges.Head(v.tag, v.total)
	t.failures = 0
	t.held = [api.MaxWindow]string{}
}

// follows tells whether the transfer is to be bound to the path's new version.
func (t *transfer) follows(v version) bool {
	switch {
	case t.lost:
		return false
	case !t.bound:
		return true
	}
	return !t.shown && t.version() != v
}

// isOpen leaves out one that was lost while it was open: that has a head to tell, though no version.
func (t *transfer) isOpen() bool {
	return !t.bound && !t.lost
}

// version is none as long as the transfer is open, just as in the errand that it wants then.
func (t *transfer) version() version {
	return version{tag: t.head.Tag, total: t.head.Total}
}

func (t *transfer) state() int {
	switch {
	case t.lost:
		return api.Lost
	case !t.bound:
		return api.Open
	case t.taken == t.head.Len:
		return api.Done
	}
	return api.Going
}

// window tells the first block of the window and the one behind its last. That of an open transfer is
// block 0, which it wants of any version.
func (t *transfer) window(s api.Settings) (int, int) {
	switch t.state() {
	case api.Lost, api.Done:
		return 0, 0
	case api.Open:
		return 0, 1
	}
	first := (t.head.From + t.taken) / s.Block
	last := (t.head.From + t.head.Len - 1) / s.Block
	return first, atMost(last+1, first+s.Window)
}

// wanted lists, in rising order, the blocks that the transfer wants, each as the errand that would bring it.
func (t *transfer) wanted(s api.Settings) []errand {
	var list []errand
	first, end := t.window(s)
	for k := first; k < end; k++ {
		if t.held[k%api.MaxWindow] == "" {
			list = append(list, errand{path: t.path, version: t.version(), block: k})
		}
	}
	return list
}

func (t *transfer) wants(e errand, s api.Settings) bool {
	wanted := t.wanted(s)
	for i := 0; i < len(wanted); i++ {
		if wanted[i] == e {
			return true
		}
	}
	return false
}

func (t *transfer) hold(block int, bytes string) {
	t.held[block%api.MaxWindow] = bytes
}

func (t *transfer) heldBytes() int {
	n := 0
	for i := 0; i < len(t.held); i++ {
		n += len(t.held[i])
	}
	return n
}

// take gives out the next bytes, at most n, as far as they are held without a gap.
func (t *transfer) take(n int, s api.Settings) string {
	first, end := t.window(s)
	run := ""
	for k := first; k < end && t.held[k%api.MaxWindow] != ""; k++ {
		run += t.held[k%api.MaxWindow]
	}
	from := t.head.From + t.taken - first*s.Block
	if from >= len(run) {
		return ""
	}
	count := atMost(len(run)-from, t.head.Len-t.taken)
	count = atMost(count, n)
	t.taken += count
	t.letGo(first, end, s)
	return run[from : from+count]
}

// letGo lets go of the blocks from first up to end, the window that was, but for those that the window has now.
func (t *transfer) letGo(first, end int, s api.Settings) {
	nowFirst, nowEnd := t.window(s)
	for k := first; k < end; k++ {
		if k < nowFirst || k >= nowEnd {
			t.held[k%api.MaxWindow] = ""
		}
	}
}

func (t *transfer) fail(tries int) {
	t.failures++
	if t.failures >= tries {
		t.lose()
	}
}

// lose changes the head for good: one that is first told later on is still that of a transfer which was lost
// ahead of being shown.
func (t *transfer) lose() {
	t.lost = true
	t.held = [api.MaxWindow]string{}
	if !t.shown {
		t.head = api.Head{Status: statusLost}
	}
}
