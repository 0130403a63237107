package haul

import "haul/api"

// errand: what a mirror is sent for. No version stands for any.
type errand struct {
	path    int
	version version
	block   int
}

func (e errand) fetch(size int) api.Fetch {
	f := api.Fetch{Path: e.path, Tag: e.version.tag, Total: e.version.total, Offset: e.block * size, Len: size}
	if !e.version.isNone() {
		f.Len = e.version.blockLen(e.block, size)
	}
	return f
}

// entry is how the cache names the errand's block.
func (e errand) entry() api.Entry {
	return api.Entry{Path: e.path, Tag: e.version.tag, Total: e.version.total, Block: e.block}
}

// sensible tests the version first: only of fair numbers can the block's length be told.
func (e errand) sensible(r api.Reply, size int) bool {
	v := version{tag: r.Tag, total: r.Total}
	if !v.fair() {
		return false
	}
	return r.Offset == e.block*size && len(r.Body) == v.blockLen(e.block, size)
}

func (p *Proxy) hasMirror(m int) bool {
	return m >= 0 && m < p.settings.Mirrors
}

// nextErrand finds the first block that is wanted and that no mirror was sent for.
func (p *Proxy) nextErrand() (errand, bool) {
	for i := 0; i < len(p.transfers); i++ {
		wanted := p.transfers[i].wanted(p.settings)
		for j := 0; j < len(wanted); j++ {
			if !p.isSent(wanted[j]) {
				return wanted[j], true
			}
		}
	}
	return errand{}, false
}

func (p *Proxy) isSent(e errand) bool {
	for i := 0; i < len(p.errands); i++ {
		if p.busy[i] && p.errands[i] == e {
			return true
		}
	}
	return false
}

// endErrand takes a mirror's errand from it.
func (p *Proxy) endErrand(m int) (errand, api.Errno) {
	if !p.hasMirror(m) {
		return errand{}, api.ErrMirror
	}
	if !p.busy[m] {
		return errand{}, api.ErrIdle
	}
	e := p.errands[m]
	p.busy[m] = false
	p.errands[m] = errand{}
	return e, api.OK
}

// answered looks at the reply to an errand that is over.
func (p *Proxy) answered(e errand, r api.Reply) {
	if !e.sensible(r, p.settings.Block) {
		p.failed(e)
		return
	}
	v := version{tag: r.Tag, total: r.Total}
	if v != e.version {
		p.renew(e.path, v)
		// An errand for any version fails for nobody: no transfer of the path is open any more.
		p.failed(e)
	}
	p.deliver(errand{path: e.path, version: v, block: e.block}, r.Body)
}

func (p *Proxy) failed(e errand) {
	for i := 0; i < len(p.transfers); i++ {
		if p.transfers[i].wants(e, p.settings) {
			p.transfers[i].fail(p.settings.Tries)
		}
	}
}

// renew makes v the path's latest version, for the transfers too that can still follow it.
func (p *Proxy) renew(path int, v version) {
	p.latest[path] = v
	for i := 0; i < len(p.transfers); i++ {
		if p.transfers[i].path == path && p.transfers[i].follows(v) {
			p.transfers[i].bind(v)
		}
	}
}

// deliver gives a block to all that want it, and to the cache. The bytes are copied, as the caller may have cut
// them out of a longer text, all of which would be kept with them.
func (p *Proxy) deliver(e errand, body string) {
	if body == "" {
		return
	}
	own := string([]byte(body))
	for i := 0; i < len(p.transfers); i++ {
		if p.transfers[i].wants(e, p.settings) {
			p.transfers[i].hold(e.block, own)
			p.transfers[i].failures = 0
		}
	}
	p.cache.put(e.entry(), own)
}
