package haul

import (
	"fmt"
	"math/rand"
	"slices"
	"strconv"
	"strings"
	"testing"

	"haul/api"
	"haul/span"
)

// model says the document's words over again, by the plainest means: maps, lists, and no thought of speed. Random
// calls are made of the model and of a proxy, and all answers compared. Of the program it uses the heads alone,
// which package span tests by themselves.
type model struct {
	s         api.Settings
	latest    map[int]version
	transfers []*modelTransfer
	errands   map[int]modelErrand
	cache     []modelBlock // the one that was used last at the end
	seen      map[string]int
}

type modelTransfer struct {
	path              int
	ranges            string
	open, shown, lost bool
	lostUnshown       bool
	v                 version
	head              api.Head
	taken, failures   int
	holds             map[int]string
}

type modelErrand struct {
	path  int
	any   bool
	v     version
	block int
}

// modelBlock: a block in the cache; what says which one, as an errand for it would.
type modelBlock struct {
	what  modelErrand
	bytes string
}

// newModel makes a model that counts what came to pass in it, in seen.
func newModel(s api.Settings, seen map[string]int) *model {
	return &model{s: s, latest: map[int]version{}, errands: map[int]modelErrand{}, seen: seen}
}

func (m *model) bind(t *modelTransfer, v version) {
	t.open = false
	t.v = v
	t.head = span.Read(t.ranges).Head(v.tag, v.total)
	t.holds = map[int]string{}
	t.failures = 0
}

// toGive: the numbers of the bytes that are still to be given out.
func (t *modelTransfer) toGive() []int {
	var l []int
	for b := t.head.From + t.taken; b < t.head.From+t.head.Len; b++ {
		l = append(l, b)
	}
	return l
}

func (m *model) window(t *modelTransfer) []int {
	var blocks []int
	for _, b := range t.toGive() {
		if k := b / m.s.Block; !slices.Contains(blocks, k) && len(blocks) < m.s.Window {
			blocks = append(blocks, k)
		}
	}
	return blocks
}

func (m *model) wanted(t *modelTransfer) []modelErrand {
	if t.lost {
		return nil
	}
	if t.open {
		return []modelErrand{{path: t.path, any: true}}
	}
	var l []modelErrand
	for _, k := range m.window(t) {
		if _, is := t.holds[k]; !is {
			l = append(l, modelErrand{path: t.path, v: t.v, block: k})
		}
	}
	return l
}

// wanting: the transfers that want this errand's block.
func (m *model) wanting(e modelErrand) []*modelTransfer {
	var l []*modelTransfer
	for _, t := range m.transfers {
		if slices.Contains(m.wanted(t), e) {
			l = append(l, t)
		}
	}
	return l
}

func (m *model) blockLen(v version, k int) int {
	n := 0
	for b := k * m.s.Block; b < (k+1)*m.s.Block && b < v.total; b++ {
		n++
	}
	return n
}

// inCache: where this errand's block is in the cache, or -1.
func (m *model) inCache(e modelErrand) int {
	return slices.IndexFunc(m.cache, func(b modelBlock) bool { return b.what == e })
}

func (m *model) used() int {
	n := 0
	for _, b := range m.cache {
		n += len(b.bytes)
	}
	return n
}

func (m *model) entries() []api.Entry {
	var l []api.Entry
	for _, b := range m.cache {
		l = append(l, api.Entry{Path: b.what.path, Tag: b.what.v.tag, Total: b.what.v.total, Block: b.what.block})
	}
	return l
}

func (m *model) intoCache(e modelErrand, bytes string) {
	if len(bytes) > m.s.Cache {
		m.seen["too long for the cache"]++
		return
	}
	if i := m.inCache(e); i >= 0 {
		m.seen["the same but for its bytes"]++
		m.cache = slices.Delete(m.cache, i, i+1)
	}
	m.cache = append(m.cache, modelBlock{e, bytes})
	gone := 0
	for m.used() > m.s.Cache {
		m.cache = m.cache[1:]
		gone++
	}
	if gone > 1 {
		m.seen["several let go at once"]++
	}
}

// look is what all transfers do at the end of this call.
func (m *model) look(call string) {
	finders := 0
	for _, t := range m.transfers {
		found := 0
		for _, e := range m.wanted(t) {
			i := m.inCache(e)
			if i < 0 {
				continue
			}
			b := m.cache[i]
			t.holds[e.block] = b.bytes
			m.cache = append(slices.Delete(m.cache, i, i+1), b)
			found++
		}
		if found > 0 {
			finders++
			m.seen["found in "+call]++
		}
		if found > 1 {
			m.seen["several found in "+call]++
		}
	}
	if finders > 1 {
		m.seen["several finders in "+call]++
	}
}

func (m *model) ask(path int, ranges string) (int, api.Errno) {
	if path < 0 || path > 3 {
		return 0, api.ErrPath
	}
	if len(m.transfers) == 8 {
		return 0, api.ErrFull
	}
	t := &modelTransfer{path: path, ranges: ranges, open: true}
	if v, is := m.latest[path]; is {
		m.bind(t, v)
	}
	m.transfers = append(m.transfers, t)
	m.look("Ask")
	return len(m.transfers) - 1, api.OK
}

func (m *model) next(mirror int) (api.Fetch, bool, api.Errno) {
	if mirror < 0 || mirror >= m.s.Mirrors {
		return api.Fetch{}, false, api.ErrMirror
	}
	if _, is := m.errands[mirror]; is {
		return api.Fetch{}, false, api.ErrBusy
	}
	for _, t := range m.transfers {
		for _, e := range m.wanted(t) {
			if m.sent(e) {
				continue
			}
			m.errands[mirror] = e
			f := api.Fetch{Path: e.path, Tag: e.v.tag, Total: e.v.total, Offset: e.block * m.s.Block, Len: m.s.Block}
			if !e.any {
				f.Len = m.blockLen(e.v, e.block)
			}
			return f, true, api.OK
		}
	}
	return api.Fetch{}, false, api.OK
}

func (m *model) sent(e modelErrand) bool {
	for _, other := range m.errands {
		if other == e {
			return true
		}
	}
	return false
}

func (m *model) end(mirror int) (modelErrand, api.Errno) {
	if mirror < 0 || mirror >= m.s.Mirrors {
		return modelErrand{}, api.ErrMirror
	}
	e, is := m.errands[mirror]
	if !is {
		return modelErrand{}, api.ErrIdle
	}
	delete(m.errands, mirror)
	return e, api.OK
}

func (m *model) fails(e modelErrand) {
	for _, t := range m.wanting(e) {
		t.failures++
		if t.failures == m.s.Tries {
			t.lost = true
			t.lostUnshown = !t.shown
			t.holds = nil
		}
	}
}

func (m *model) fail(mirror int) api.Errno {
	e, no := m.end(mirror)
	if no == api.OK {
		m.fails(e)
		m.look("Fail")
	}
	return no
}

func (m *model) reply(mirror int, r api.Reply) api.Errno {
	e, no := m.end(mirror)
	if no == api.OK {
		m.answer(e, r)
		m.look("Reply")
	}
	return no
}

func (m *model) answer(e modelErrand, r api.Reply) {
	v := version{tag: r.Tag, total: r.Total}
	if r.Tag < 1 || r.Tag > 99 || r.Total < 0 || r.Total > 1000 || r.Offset != e.block*m.s.Block || len(r.Body) != m.blockLen(v, e.block) {
		m.fails(e)
		return
	}
	if e.any || e.v != v {
		m.latest[e.path] = v
		for _, t := range m.transfers {
			if t.path == e.path && !t.lost && (t.open || t.v != v && !t.shown) {
				m.bind(t, v)
			}
		}
		if !e.any {
			m.fails(e)
		}
	}
	if r.Body == "" {
		return
	}
	delivered := modelErrand{path: e.path, v: v, block: e.block}
	wanting := m.wanting(delivered)
	if len(wanting) == 0 {
		m.seen["delivered to none"]++
	}
	for _, t := range wanting {
		t.holds[e.block] = r.Body
		t.failures = 0
	}
	m.intoCache(delivered, r.Body)
}

func (m *model) has(id int) bool { return id >= 0 && id < len(m.transfers) }

func (m *model) state(id int) (int, api.Errno) {
	if !m.has(id) {
		return 0, api.ErrId
	}
	switch t := m.transfers[id]; {
	case t.lost:
		return api.Lost, api.OK
	case t.open:
		return api.Open, api.OK
	case len(t.toGive()) == 0:
		return api.Done, api.OK
	}
	return api.Going, api.OK
}

func (m *model) held(id int) (int, api.Errno) {
	if !m.has(id) {
		return 0, api.ErrId
	}
	n := 0
	for _, bytes := range m.transfers[id].holds {
		n += len(bytes)
	}
	return n, api.OK
}

func (m *model) headOf(id int) (api.Head, api.Errno) {
	if !m.has(id) {
		return api.Head{}, api.ErrId
	}
	t := m.transfers[id]
	if t.open && !t.lost {
		return api.Head{}, api.ErrOpen
	}
	t.shown = true
	if t.lostUnshown {
		return api.Head{Status: 502}, api.OK
	}
	return t.head, api.OK
}

func (m *model) take(id, n int) (string, api.Errno) {
	if !m.has(id) {
		return "", api.ErrId
	}
	if n < 0 {
		return "", api.ErrArg
	}
	t := m.transfers[id]
	if t.open && !t.lost {
		return "", api.ErrOpen
	}
	t.shown = true
	given := ""
	for _, b := range t.toGive() {
		bytes, is := t.holds[b/m.s.Block]
		if !is || len(given) == n {
			break
		}
		given += bytes[b%m.s.Block : b%m.s.Block+1]
		t.taken++
	}
	for k := range t.holds {
		if !slices.Contains(m.window(t), k) {
			delete(t.holds, k)
		}
	}
	m.look("Take")
	return given, api.OK
}

// walk makes random calls of a proxy and of the model, and keeps what came out of each transfer. Its mirrors are
// honest, unless they lie: then what they send with a version is another object every time.
type walk struct {
	t     *testing.T
	r     *rand.Rand
	p     *Proxy
	m     *model
	lie   bool
	has   []version         // what the mirrors have
	last  map[int]api.Fetch // of each mirror that has an errand
	taken map[int]string
	came  map[string]bool // every byte of a reply, with its path, version and place
	log   []string
}

func newWalk(t *testing.T, r *rand.Rand, lie bool, seen map[string]int) *walk {
	s := api.Settings{Mirrors: 1 + r.Intn(3), Block: 1 + r.Intn(6), Window: 1 + r.Intn(4), Cache: r.Intn(40), Tries: 1 + r.Intn(4)}
	if r.Intn(4) == 0 {
		s.Block = 1 + r.Intn(16)
	}
	switch r.Intn(8) {
	case 0:
		s.Cache = 0
	case 1:
		s.Cache = 256
	case 2:
		s.Cache = s.Block
	}
	has := versions
	if r.Intn(2) == 0 {
		// With two versions a path comes back to one of which there are blocks in the cache.
		has = versions[4:6]
	}
	p := start(t, s)
	return &walk{t: t, r: r, p: p, m: newModel(s, seen), lie: lie, has: has, last: map[int]api.Fetch{}, taken: map[int]string{}, came: map[string]bool{}, log: []string{fmt.Sprintf("%+v", s)}}
}

// same compares two answers; got is the proxy's.
func (w *walk) same(call string, got, want any) {
	w.t.Helper()
	w.log = append(w.log, fmt.Sprintf("%s = %v", call, got))
	if fmt.Sprint(got) != fmt.Sprint(want) {
		w.stop("%s = %v, want %v", call, got, want)
	}
}

func (w *walk) stop(form string, values ...any) {
	w.t.Helper()
	w.t.Fatalf(form+"\n%s", append(values, strings.Join(w.log, "\n"))...)
}

func (w *walk) ask(path int, ranges string) {
	id, e := w.p.Ask(path, ranges)
	wantId, wantE := w.m.ask(path, ranges)
	w.same(fmt.Sprintf("Ask(%d, %q)", path, ranges), []int{id, int(e)}, []int{wantId, int(wantE)})
}

func (w *walk) next(mirror int) {
	f, is, e := w.p.Next(mirror)
	wantF, wantIs, wantE := w.m.next(mirror)
	w.same(fmt.Sprintf("Next(%d)", mirror), []any{f, is, e}, []any{wantF, wantIs, wantE})
	if is {
		w.last[mirror] = f
	}
}

func place(path int, v version, at int, b byte) string {
	return fmt.Sprint(path, v, at, b)
}

func (w *walk) reply(mirror int, r api.Reply) {
	for i := range len(r.Body) {
		w.came[place(w.last[mirror].Path, version{r.Tag, r.Total}, r.Offset+i, r.Body[i])] = true
	}
	w.same(fmt.Sprintf("Reply(%d, %d of %d: %d, %q)", mirror, r.Tag, r.Total, r.Offset, r.Body), w.p.Reply(mirror, r), w.m.reply(mirror, r))
	delete(w.last, mirror)
}

func (w *walk) fail(mirror int) {
	w.same(fmt.Sprintf("Fail(%d)", mirror), w.p.Fail(mirror), w.m.fail(mirror))
	delete(w.last, mirror)
}

func (w *walk) head(id int) {
	h, e := w.p.Head(id)
	wantH, wantE := w.m.headOf(id)
	w.same(fmt.Sprintf("Head(%d)", id), []any{h, e}, []any{wantH, wantE})
}

func (w *walk) take(id, n int) string {
	s, e := w.p.Take(id, n)
	wantS, wantE := w.m.take(id, n)
	w.same(fmt.Sprintf("Take(%d, %d)", id, n), []any{strconv.Quote(s), e}, []any{strconv.Quote(wantS), wantE})
	w.taken[id] += s
	return s
}

// look compares all that can be told without a change, and what P10 and P11 say of it.
func (w *walk) look() {
	w.t.Helper()
	for id := range len(w.m.transfers) + 1 {
		s, e := w.p.State(id)
		wantS, wantE := w.m.state(id)
		if s != wantS || e != wantE {
			w.stop("State(%d) = %d, %d, want %d, %d", id, s, e, wantS, wantE)
		}
		n, e := w.p.Held(id)
		wantN, wantE := w.m.held(id)
		if n != wantN || e != wantE || n > w.m.s.Window*w.m.s.Block {
			w.stop("Held(%d) = %d, %d, want %d, %d", id, n, e, wantN, wantE)
		}
	}
	l := w.p.Entries()
	if want := w.m.entries(); !slices.Equal(l, want) {
		w.stop("Entries() = %v, want %v", l, want)
	}
	n := 0
	for _, e := range l {
		n += w.m.blockLen(version{e.Tag, e.Total}, e.Block)
	}
	if u := w.p.Used(); u != n || u > w.m.s.Cache {
		w.stop("Used() = %d, want %d", u, n)
	}
}

var versions = []version{{1, 0}, {1, 1}, {2, 7}, {3, 7}, {3, 16}, {4, 30}, {5, 61}}

// object: what an honest mirror has of a version. No two of them have the same byte at the same place.
func object(path int, v version) string {
	bytes := make([]byte, v.total)
	for i := range bytes {
		bytes[i] = '0' + byte((i*29+path*7+slices.Index(versions, v)*11)%75)
	}
	return string(bytes)
}

// honest: a reply to this fetch of a mirror that has the version.
func honest(f api.Fetch, v version, size int) api.Reply {
	whole := object(f.Path, v)
	from := min(f.Offset, len(whole))
	return api.Reply{Tag: v.tag, Total: v.total, Offset: f.Offset, Body: whole[from:min(from+size, len(whole))]}
}

// answer: a sensible reply to this fetch.
func (w *walk) answer(f api.Fetch, v version) api.Reply {
	r := honest(f, v, w.m.s.Block)
	if w.lie {
		bytes := []byte(r.Body)
		for i := range bytes {
			bytes[i] = byte(w.r.Intn(256))
		}
		r.Body = string(bytes)
	}
	return r
}

func (w *walk) someReply(mirror int) api.Reply {
	f := w.last[mirror]
	v := version{f.Tag, f.Total}
	if v.isNone() || w.r.Intn(4) == 0 {
		v = w.has[w.r.Intn(len(w.has))]
	}
	r := w.answer(f, v)
	if w.r.Intn(6) > 0 {
		return r
	}
	switch w.r.Intn(6) {
	case 0:
		r.Tag = []int{0, -1, 100}[w.r.Intn(3)]
	case 1:
		r.Total = []int{-1, 1001}[w.r.Intn(2)]
	case 2:
		r.Offset += []int{1, -1, w.m.s.Block, -w.m.s.Block}[w.r.Intn(4)]
	case 3:
		r.Body += "x"
	case 4:
		r.Body = r.Body[:max(0, len(r.Body)-1)]
	case 5:
		r = api.Reply{}
	}
	return r
}

var someRanges = []string{"", "bytes=0-", "bytes=3-9", "bytes=5-5", "bytes=7-", "bytes=16-40", "bytes=-1", "bytes=-9", "bytes=-0", "bytes=9-3", "bytes=60-", "bytes=0-999999"}

func (w *walk) step() {
	id := w.r.Intn(len(w.m.transfers)+2) - 1
	mirror := w.r.Intn(w.m.s.Mirrors)
	if w.r.Intn(20) == 0 {
		mirror = w.r.Intn(6) - 1
	}
	switch k := w.r.Intn(40); {
	case k < 2:
		w.ask(w.r.Intn(2), someRanges[w.r.Intn(len(someRanges))])
	case k < 3:
		w.ask(w.r.Intn(6)-1, someRanges[w.r.Intn(len(someRanges))])
	case k < 15:
		w.next(mirror)
	case k < 27:
		w.reply(mirror, w.someReply(mirror))
	case k < 29:
		w.fail(mirror)
	case k < 30:
		w.head(id)
	case len(w.has) == 2 && k < 38:
		w.next(mirror) // transfers that are taken of seldom follow the versions longer
	default:
		w.take(id, w.r.Intn(14)-1)
	}
	w.look()
}

// finish answers every errand with the version asked for, or with the path's latest, and takes all bytes: every
// transfer that is not lost gets done.
func (w *walk) finish() {
	withLatest := w.r.Intn(2) == 0
	for moves := true; moves; {
		moves = w.answerAll(withLatest)
		for id := range w.m.transfers {
			if s, _ := w.p.State(id); s != api.Open && w.take(id, 1+w.r.Intn(20)) != "" {
				moves = true
			}
		}
		w.look()
	}
	for id := range w.m.transfers {
		if s, _ := w.p.State(id); s != api.Done && s != api.Lost {
			w.stop("transfer %d is not done at the end: %d", id, s)
		}
	}
}

// answerAll sends all mirrors and lets them answer, and tells whether there was any errand.
func (w *walk) answerAll(withLatest bool) bool {
	for mirror := range w.m.s.Mirrors {
		w.next(mirror)
	}
	any := len(w.last) > 0
	for mirror := range w.m.s.Mirrors {
		f, is := w.last[mirror]
		if !is {
			continue
		}
		v := version{f.Tag, f.Total}
		if withLatest {
			v = w.m.latest[f.Path]
		}
		if v.isNone() {
			v = w.has[len(w.has)-1]
		}
		w.reply(mirror, w.answer(f, v))
	}
	return any
}

// checkTaken: P11: all bytes came in replies with the head's version, each for its own place. Of honest mirrors they
// are a beginning of what the head tells, and all of it, if the transfer is done.
func (w *walk) checkTaken() {
	for id, t := range w.m.transfers {
		h, e := w.p.Head(id)
		if e != api.OK {
			continue
		}
		v := version{h.Tag, h.Total}
		got := w.taken[id]
		for i := range len(got) {
			if !w.came[place(t.path, v, h.From+i, got[i])] {
				w.stop("byte %d of transfer %d came in no reply: %q", i, id, got)
			}
		}
		s, _ := w.p.State(id)
		if len(got) > h.Len || s == api.Done && len(got) != h.Len {
			w.stop("of transfer %d, in the state %d, %d bytes were taken, of %d", id, s, len(got), h.Len)
		}
		if !w.lie && got != "" && got != object(t.path, v)[h.From:h.From+len(got)] {
			w.stop("of transfer %d %q was taken, of %q", id, got, object(t.path, v))
		}
	}
}

func TestAgainstTheModel(t *testing.T) {
	states := map[int]int{}
	seen := map[string]int{}
	for seed := range int64(3000) {
		w := newWalk(t, rand.New(rand.NewSource(seed)), seed%3 == 0, seen)
		w.ask(w.r.Intn(2), someRanges[w.r.Intn(len(someRanges))])
		for range 30 + w.r.Intn(150) {
			w.step()
		}
		w.finish()
		w.checkTaken()
		for id := range w.m.transfers {
			s, _ := w.p.State(id)
			states[s]++
		}
	}
	// Walks that hardly ever end well, or never badly, or hardly touch the cache, would test little.
	if states[api.Done] < 6000 || states[api.Lost] < 1500 {
		t.Errorf("the walks ended in these states: %v", states)
	}
	for _, event := range []string{
		"delivered to none", "too long for the cache", "the same but for its bytes", "several let go at once",
		"found in Ask", "found in Take", "found in Reply",
		"several found in Ask", "several found in Take", "several found in Reply", "several finders in Reply",
	} {
		if seen[event] < 20 {
			t.Errorf("%s: %d times in all walks", event, seen[event])
		}
	}
}
