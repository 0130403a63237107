package haul

import "haul/api"

type cached struct {
	entry api.Entry
	bytes string
}

// cache has its blocks in the order in which they were last used: the one that was used last is at the end.
type cache struct {
	room   int
	blocks []cached
}

func (c *cache) used() int {
	n := 0
	for i := 0; i < len(c.blocks); i++ {
		n += len(c.blocks[i].bytes)
	}
	return n
}

func (c *cache) entries() []api.Entry {
	l := make([]api.Entry, len(c.blocks))
	for i := 0; i < len(c.blocks); i++ {
		l[i] = c.blocks[i].entry
	}
	return l
}

// find tells where a block is: behind the last one, if it is not in the cache.
func (c *cache) find(e api.Entry) int {
	i := 0
	for i < len(c.blocks) && c.blocks[i].entry != e {
		i++
	}
	return i
}

// remove takes out the block at i, if there is one.
func (c *cache) remove(i int) {
	if i >= len(c.blocks) {
		return
	}
	last := len(c.blocks) - 1
	for ; i < last; i++ {
		c.blocks[i] = c.blocks[i+1]
	}
	// The room behind the end would keep the bytes.
	c.blocks[last] = cached{}
	c.blocks = c.blocks[:last]
}

// put lays a block into the cache, in the place of one that is the same but for its bytes.
func (c *cache) put(e api.Entry, bytes string) {
	if len(bytes) > c.room {
		return
	}
	i := c.find(e)
	c.remove(i)
	c.blocks = append(c.blocks, cached{entry: e, bytes: bytes})
	// This ends ahead of the new block, which is the last in the order and has room by itself.
	for c.used() > c.room {
		c.remove(0)
	}
}

// use gives a block's bytes, or none, if it is not in the cache.
func (c *cache) use(e api.Entry) string {
	i := c.find(e)
	if i == len(c.blocks) {
		return ""
	}
	b := c.blocks[i]
	c.remove(i)
	c.blocks = append(c.blocks, b)
	return b.bytes
}

// look lets all transfers look into the cache. What is found there is no delivery: failures stay. An open transfer
// finds nothing, as no block in the cache is without a version.
func (p *Proxy) look() {
	for i := 0; i < len(p.transfers); i++ {
		wanted := p.transfers[i].wanted(p.settings)
		for j := 0; j < len(wanted); j++ {
			bytes := p.cache.use(wanted[j].entry())
			if bytes != "" {
				p.transfers[i].hold(wanted[j].block, bytes)
			}
		}
	}
}
