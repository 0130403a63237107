// Package haul: large objects, fetched block by block from several mirrors: see DOC.md.
package haul

import (
	"haul/api"
	"haul/span"
)

// Proxy stands between clients and mirrors. A mirror that is not busy has the errand of noughts; that is an
// errand too, so busy has to tell.
type Proxy struct {
	settings  api.Settings
	latest    [api.Paths]version
	transfers []transfer
	busy      [api.MaxMirrors]bool
	errands   [api.MaxMirrors]errand
	cache     cache
}

// New makes a proxy (P3).
func New(s api.Settings) (*Proxy, api.Errno) {
	if !fair(s) {
		return nil, api.ErrSet
	}
	return &Proxy{settings: s, cache: cache{room: s.Cache}}, api.OK
}

func fair(s api.Settings) bool {
	switch {
	case s.Mirrors < 1 || s.Mirrors > api.MaxMirrors:
		return false
	case s.Block < 1 || s.Block > api.MaxBlock:
		return false
	case s.Window < 1 || s.Window > api.MaxWindow:
		return false
	case s.Cache < 0 || s.Cache > api.MaxCache:
		return false
	case s.Tries < 1 || s.Tries > api.MaxTries:
		return false
	}
	return true
}

// Ask begins a transfer (P4).
func (p *Proxy) Ask(path int, ranges string) (int, api.Errno) {
	if path < 0 || path >= api.Paths {
		return 0, api.ErrPath
	}
	id := len(p.transfers)
	if id >= api.MaxTransfers {
		return 0, api.ErrFull
	}
	t := transfer{path: path, ranges: span.Read(ranges)}
	if !p.latest[path].isNone() {
		t.bind(p.latest[path])
	}
	p.transfers = append(p.transfers, t)
	p.look()
	return id, api.OK
}

// Next sends a mirror on an errand (P8).
func (p *Proxy) Next(mirror int) (api.Fetch, bool, api.Errno) {
	if !p.hasMirror(mirror) {
		return api.Fetch{}, false, api.ErrMirror
	}
	if p.busy[mirror] {
		return api.Fetch{}, false, api.ErrBusy
	}
	e, found := p.nextErrand()
	if !found {
		return api.Fetch{}, false, api.OK
	}
	p.busy[mirror] = true
	p.errands[mirror] = e
	return e.fetch(p.settings.Block), true, api.OK
}

// Reply hands over what a mirror answered (P9).
func (p *Proxy) Reply(mirror int, r api.Reply) api.Errno {
	e, refusal := p.endErrand(mirror)
	if refusal != api.OK {
		return refusal
	}
	p.answered(e, r)
	p.look()
	return api.OK
}

// Fail tells that a mirror does not answer (P9).
func (p *Proxy) Fail(mirror int) api.Errno {
	e, refusal := p.endErrand(mirror)
	if refusal != api.OK {
		return refusal
	}
	p.failed(e)
	p.look()
	return api.OK
}

func (p *Proxy) hasTransfer(id int) bool {
	return id >= 0 && id < len(p.transfers)
}

// State tells how a transfer stands (P5).
func (p *Proxy) State(id int) (int, api.Errno) {
	if !p.hasTransfer(id) {
		return 0, api.ErrId
	}
	return p.transfers[id].state(), api.OK
}

// Head tells a transfer's head (P6).
func (p *Proxy) Head(id int) (api.Head, api.Errno) {
	if !p.hasTransfer(id) {
		return api.Head{}, api.ErrId
	}
	t := &p.transfers[id]
	if t.isOpen() {
		return api.Head{}, api.ErrOpen
	}
	t.shown = true
	return t.head, api.OK
}

// Take gives out a transfer's next bytes (P7).
func (p *Proxy) Take(id int, n int) (string, api.Errno) {
	if !p.hasTransfer(id) {
		return "", api.ErrId
	}
	if n < 0 {
		return "", api.ErrArg
	}
	t := &p.transfers[id]
	if t.isOpen() {
		return "", api.ErrOpen
	}
	t.shown = true
	bytes := t.take(n, p.settings)
	p.look()
	return bytes, api.OK
}

// Held tells how many bytes a transfer holds (P5).
func (p *Proxy) Held(id int) (int, api.Errno) {
	if !p.hasTransfer(id) {
		return 0, api.ErrId
	}
	return p.transfers[id].heldBytes(), api.OK
}

// Used tells how many bytes are in the cache (P10).
func (p *Proxy) Used() int {
	return p.cache.used()
}

// Entries lists what is in the cache, the block that was used last at the end (P10).
func (p *Proxy) Entries() []api.Entry {
	return p.cache.entries()
}
