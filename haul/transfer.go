package haul

import (
	"haul/api"
	"haul/span"
)

// version: tag 0 stands for none, as no version has it.
type version struct {
	tag, total int
}

// transfer is what came of an Ask. It is open until it is bound; then its head tells its version.
type transfer struct {
	path   int
	ranges span.Range
	bound  bool
	shown  bool
	head   api.Head
}

func (t *transfer) bind(v version) {
	t.bound = true
	t.head = t.ranges.Head(v.tag, v.total)
}

// state: as long as no byte can be taken, only what has none is done, and nothing can be lost.
func (t *transfer) state() int {
	switch {
	case !t.bound:
		return api.Open
	case t.head.Len == 0:
		return api.Done
	}
	return api.Going
}
