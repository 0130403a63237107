package haul

import (
	"math"
	"reflect"
	"slices"
	"strings"
	"testing"

	"haul/api"
)

// bare has no cache: what a transfer holds came to it in a reply, and is fetched again where it is wanted again.
var (
	plain = api.Settings{Mirrors: 2, Block: 4, Window: 2, Cache: 8, Tries: 2}
	bare  = api.Settings{Mirrors: 2, Block: 4, Window: 2, Cache: 0, Tries: 2}
)

var (
	noPaths = []int{-1, api.Paths, api.Paths + 1, math.MaxInt32, math.MinInt32, math.MaxInt, math.MinInt}
	oddIds  = []int{-1, api.MaxTransfers, api.MaxTransfers + 1, math.MaxInt32, math.MinInt32, math.MaxInt, math.MinInt}
	oddText = []string{
		"", "bytes=", "bytes=-", "bytes=0-3", "bytes=3-0", "bytes=-0", "\x00", "\xff\xfe", "bytes=\xff-", "bytes=9999999-",
		strings.Repeat("x", 1<<20), "bytes=" + strings.Repeat("9", 1<<20) + "-",
	}
)

func start(t *testing.T, s api.Settings) *Proxy {
	t.Helper()
	p, e := New(s)
	if p == nil || e != api.OK {
		t.Fatalf("New(%+v): %d", s, e)
	}
	return p
}

func ask(t *testing.T, p *Proxy, path int, ranges string, want int) {
	t.Helper()
	if id, e := p.Ask(path, ranges); id != want || e != api.OK {
		t.Fatalf("Ask(%d, %.60q) = %d, %d, want %d", path, ranges, id, e, want)
	}
}

func refuseAsk(t *testing.T, p *Proxy, path int, ranges string, want api.Errno) {
	t.Helper()
	before := copyOf(p)
	if id, e := p.Ask(path, ranges); id != 0 || e != want {
		t.Errorf("Ask(%d, %.60q) = %d, %d, want 0, %d", path, ranges, id, e, want)
	}
	same(t, p, before)
}

func checkState(t *testing.T, p *Proxy, id, want int) {
	t.Helper()
	before := copyOf(p)
	if s, e := p.State(id); s != want || e != api.OK {
		t.Errorf("State(%d) = %d, %d, want %d", id, s, e, want)
	}
	same(t, p, before)
}

func checkHeld(t *testing.T, p *Proxy, id, want int) {
	t.Helper()
	before := copyOf(p)
	if n, e := p.Held(id); n != want || e != api.OK {
		t.Errorf("Held(%d) = %d, %d, want %d", id, n, e, want)
	}
	same(t, p, before)
}

func checkHead(t *testing.T, p *Proxy, id int, want api.Head) {
	t.Helper()
	if h, e := p.Head(id); h != want || e != api.OK {
		t.Errorf("Head(%d) = %+v, %d, want %+v", id, h, e, want)
	}
}

func refuseHead(t *testing.T, p *Proxy, id int, want api.Errno) {
	t.Helper()
	before := copyOf(p)
	if h, e := p.Head(id); h != (api.Head{}) || e != want {
		t.Errorf("Head(%d) = %+v, %d, want noughts, %d", id, h, e, want)
	}
	same(t, p, before)
}

func checkOpen(t *testing.T, p *Proxy, id int) {
	t.Helper()
	checkState(t, p, id, api.Open)
	checkHeld(t, p, id, 0)
	refuseHead(t, p, id, api.ErrOpen)
	refuseTake(t, p, id, 0, api.ErrOpen)
	refuseTake(t, p, id, 9, api.ErrOpen)
	refuseTake(t, p, id, -1, api.ErrArg)
}

func refuseId(t *testing.T, p *Proxy, id int) {
	t.Helper()
	before := copyOf(p)
	if s, e := p.State(id); s != 0 || e != api.ErrId {
		t.Errorf("State(%d) = %d, %d, want 0, %d", id, s, e, api.ErrId)
	}
	if n, e := p.Held(id); n != 0 || e != api.ErrId {
		t.Errorf("Held(%d) = %d, %d, want 0, %d", id, n, e, api.ErrId)
	}
	refuseHead(t, p, id, api.ErrId)
	refuseTake(t, p, id, 9, api.ErrId)
	refuseTake(t, p, id, -1, api.ErrId)
	same(t, p, before)
}

func anyOf(path, size int) api.Fetch {
	return api.Fetch{Path: path, Len: size}
}

func next(t *testing.T, p *Proxy, mirror int, want api.Fetch) {
	t.Helper()
	if f, is, e := p.Next(mirror); f != want || !is || e != api.OK {
		t.Fatalf("Next(%d) = %+v, %v, %d, want %+v", mirror, f, is, e, want)
	}
}

func idle(t *testing.T, p *Proxy, mirror int) {
	t.Helper()
	refuseNext(t, p, mirror, api.OK)
}

func refuseNext(t *testing.T, p *Proxy, mirror int, want api.Errno) {
	t.Helper()
	before := copyOf(p)
	if f, is, e := p.Next(mirror); f != (api.Fetch{}) || is || e != want {
		t.Errorf("Next(%d) = %+v, %v, %d, want noughts, false, %d", mirror, f, is, e, want)
	}
	same(t, p, before)
}

func reply(t *testing.T, p *Proxy, mirror, tag, total, offset int, body string) {
	t.Helper()
	if e := p.Reply(mirror, api.Reply{Tag: tag, Total: total, Offset: offset, Body: body}); e != api.OK {
		t.Fatalf("Reply(%d, %d of %d: %d, %q): %d", mirror, tag, total, offset, body, e)
	}
}

func fail(t *testing.T, p *Proxy, mirror int) {
	t.Helper()
	if e := p.Fail(mirror); e != api.OK {
		t.Fatalf("Fail(%d): %d", mirror, e)
	}
}

// refuseEnd: replies of every sort and Fail are refused alike.
func refuseEnd(t *testing.T, p *Proxy, mirror int, want api.Errno) {
	t.Helper()
	before := copyOf(p)
	for _, r := range []api.Reply{{}, {Tag: 7, Total: 10, Body: "abcd"}, {Tag: 7, Total: 0}, {Tag: -1, Total: -1, Offset: -1, Body: "x"}} {
		if e := p.Reply(mirror, r); e != want {
			t.Errorf("Reply(%d, %+v): %d, want %d", mirror, r, e, want)
		}
	}
	if e := p.Fail(mirror); e != want {
		t.Errorf("Fail(%d): %d, want %d", mirror, e, want)
	}
	same(t, p, before)
}

func take(t *testing.T, p *Proxy, id, n int, want string) {
	t.Helper()
	if s, e := p.Take(id, n); s != want || e != api.OK {
		t.Errorf("Take(%d, %d) = %q, %d, want %q", id, n, s, e, want)
	}
}

func refuseTake(t *testing.T, p *Proxy, id, n int, want api.Errno) {
	t.Helper()
	before := copyOf(p)
	if s, e := p.Take(id, n); s != "" || e != want {
		t.Errorf("Take(%d, %d) = %q, %d, want nothing, %d", id, n, s, e, want)
	}
	same(t, p, before)
}

func copyOf(p *Proxy) Proxy {
	c := *p
	c.transfers = slices.Clone(p.transfers)
	c.cache.blocks = slices.Clone(p.cache.blocks)
	return c
}

func same(t *testing.T, p *Proxy, before Proxy) {
	t.Helper()
	if !reflect.DeepEqual(*p, before) {
		t.Errorf("the proxy was changed: %+v, before: %+v", *p, before)
	}
}

// P3

func TestFairSettings(t *testing.T) {
	for _, c := range []struct {
		field       func(s *api.Settings) *int
		least, most int
	}{
		{func(s *api.Settings) *int { return &s.Mirrors }, 1, 3},
		{func(s *api.Settings) *int { return &s.Block }, 1, 16},
		{func(s *api.Settings) *int { return &s.Window }, 1, 4},
		{func(s *api.Settings) *int { return &s.Cache }, 0, 256},
		{func(s *api.Settings) *int { return &s.Tries }, 1, 4},
	} {
		s := plain
		for n := c.least; n <= c.most; n++ {
			*c.field(&s) = n
			start(t, s)
		}
		for _, n := range []int{c.least - 1, c.most + 1, -c.most, math.MaxInt32, math.MinInt32, math.MaxInt, math.MinInt} {
			*c.field(&s) = n
			if p, e := New(s); p != nil || e != api.ErrSet {
				t.Errorf("New(%+v): %v, %d, want nil, %d", s, p, e, api.ErrSet)
			}
		}
	}
}

func TestSettingsAtAllBoundsTogether(t *testing.T) {
	start(t, api.Settings{Mirrors: 1, Block: 1, Window: 1, Cache: 0, Tries: 1})
	start(t, api.Settings{Mirrors: 3, Block: 16, Window: 4, Cache: 256, Tries: 4})
	for _, s := range []api.Settings{{}, {Mirrors: 4, Block: 17, Window: 5, Cache: 257, Tries: 5}, {Mirrors: 0, Block: 0, Window: 0, Cache: -1, Tries: 0}} {
		if p, e := New(s); p != nil || e != api.ErrSet {
			t.Errorf("New(%+v): %v, %d, want nil, %d", s, p, e, api.ErrSet)
		}
	}
}

func TestNewProxyIsEmpty(t *testing.T) {
	p := start(t, plain)
	refuseId(t, p, 0)
	if n, l := p.Used(), p.Entries(); n != 0 || len(l) != 0 {
		t.Errorf("a new proxy has %d bytes in its cache, %v", n, l)
	}
	for mirror := range plain.Mirrors {
		idle(t, p, mirror)
		refuseEnd(t, p, mirror, api.ErrIdle)
	}
	for path := range api.Paths {
		ask(t, p, path, "", path)
		checkOpen(t, p, path)
	}
}

// P4

func TestAskNumbersFromNoughtOn(t *testing.T) {
	p := start(t, plain)
	for id := range api.MaxTransfers {
		refuseId(t, p, id)
		ask(t, p, (id+2)%api.Paths, "bytes=0-3", id)
		for i := range id + 1 {
			checkOpen(t, p, i)
		}
	}
}

func TestAskOfNoPath(t *testing.T) {
	p := start(t, plain)
	for _, path := range noPaths {
		refuseAsk(t, p, path, "", api.ErrPath)
	}
	ask(t, p, 3, "", 0)
	for _, path := range noPaths {
		refuseAsk(t, p, path, "bytes=0-3", api.ErrPath)
	}
	ask(t, p, 0, "", 1)
}

func TestNinthAsk(t *testing.T) {
	p := start(t, plain)
	for id := range api.MaxTransfers {
		ask(t, p, 1, "", id)
	}
	for path := range api.Paths {
		refuseAsk(t, p, path, "", api.ErrFull)
	}
	for _, path := range noPaths {
		refuseAsk(t, p, path, "", api.ErrPath)
	}
	refuseId(t, p, api.MaxTransfers)
	checkOpen(t, p, api.MaxTransfers-1)
}

func TestAskOfOddTexts(t *testing.T) {
	for _, text := range oddText {
		p := start(t, plain)
		refuseAsk(t, p, -1, text, api.ErrPath)
		for id := range api.MaxTransfers {
			ask(t, p, id%api.Paths, text, id)
			checkOpen(t, p, id)
		}
		refuseAsk(t, p, 0, text, api.ErrFull)
	}
}

func TestAskBindsToTheLatestVersion(t *testing.T) {
	p := start(t, bare)
	ask(t, p, 2, "", 0)
	ask(t, p, 1, "bytes=2-6", 1)
	next(t, p, 0, anyOf(2, 4))
	next(t, p, 1, anyOf(1, 4))
	reply(t, p, 1, 7, 10, 0, "abcd")
	for i, c := range []struct {
		ranges string
		state  int
		head   api.Head
	}{
		{"bytes=2-6", api.Going, api.Head{Status: 206, Tag: 7, Total: 10, From: 2, Len: 5}},
		{"bytes=4-", api.Going, api.Head{Status: 206, Tag: 7, Total: 10, From: 4, Len: 6}},
		{"bytes=-3", api.Going, api.Head{Status: 206, Tag: 7, Total: 10, From: 7, Len: 3}},
		{"bytes=10-", api.Done, api.Head{Status: 416, Tag: 7, Total: 10}},
		{"bytes=6-2", api.Going, api.Head{Status: 200, Tag: 7, Total: 10, Len: 10}},
	} {
		id := i + 2
		ask(t, p, 1, c.ranges, id)
		checkState(t, p, id, c.state)
		checkHeld(t, p, id, 0)
		checkHead(t, p, id, c.head)
		checkHead(t, p, id, c.head)
		checkState(t, p, id, c.state)
	}
	ask(t, p, 3, "", 7)
	checkOpen(t, p, 7)
	checkOpen(t, p, 0)
}

func TestAskBindsToAnEmptyLatestVersion(t *testing.T) {
	p := start(t, bare)
	ask(t, p, 0, "", 0)
	next(t, p, 0, anyOf(0, 4))
	reply(t, p, 0, 1, 0, 0, "")
	ask(t, p, 0, "", 1)
	checkState(t, p, 1, api.Done)
	checkHead(t, p, 1, api.Head{Status: 200, Tag: 1})
}

// Not the first version, nor the one that most transfers have, but the latest.
func TestAskBindsToALaterVersion(t *testing.T) {
	p := start(t, bare)
	ask(t, p, 0, "", 0)
	next(t, p, 0, anyOf(0, 4))
	reply(t, p, 0, 7, 10, 0, "abcd")
	checkHead(t, p, 0, api.Head{Status: 200, Tag: 7, Total: 10, Len: 10})
	next(t, p, 0, api.Fetch{Tag: 7, Total: 10, Offset: 4, Len: 4})
	reply(t, p, 0, 6, 5, 4, "E")
	ask(t, p, 0, "", 1)
	checkHead(t, p, 1, api.Head{Status: 200, Tag: 6, Total: 5, Len: 5})
	next(t, p, 0, api.Fetch{Tag: 7, Total: 10, Offset: 4, Len: 4})
	reply(t, p, 0, 7, 10, 4, "efgh")
	ask(t, p, 0, "", 2) // an answer of the version asked for does not make it the latest again
	checkHead(t, p, 2, api.Head{Status: 200, Tag: 6, Total: 5, Len: 5})
}

// P2

func TestProxiesBesideOneAnother(t *testing.T) {
	p := start(t, plain)
	q := start(t, plain)
	for id := range api.MaxTransfers {
		before := copyOf(q)
		ask(t, p, id%api.Paths, "bytes=0-3", id)
		checkOpen(t, p, id)
		same(t, q, before)
	}
	refuseId(t, q, 0)
	ask(t, q, 3, "", 0)
	checkOpen(t, q, 0)
	refuseId(t, q, 1)
	refuseAsk(t, p, 3, "", api.ErrFull)
	before := copyOf(p)
	ask(t, q, 2, "", 1)
	start(t, plain)
	same(t, p, before)
}

func TestSameCallsSameAnswers(t *testing.T) {
	p := start(t, plain)
	q := start(t, plain)
	for i := range 12 {
		n, e := p.Ask(i%5, oddText[i])
		m, f := q.Ask(i%5, oddText[i])
		if n != m || e != f {
			t.Errorf("Ask %d: %d, %d and %d, %d", i, n, e, m, f)
		}
		same(t, p, *q)
	}
}

// P1

func TestAllCallsEndAtOddNumbersAndTexts(t *testing.T) {
	numbers := append([]int{0, 1, 2, 3, 4, 100, 1000}, oddIds...)
	for _, s := range []api.Settings{bare, plain, {Mirrors: 1, Block: 1, Window: 1, Tries: 1}, {Mirrors: 3, Block: 16, Window: 4, Cache: 256, Tries: 4}} {
		p := start(t, s)
		ask(t, p, 1, "", 0)
		for _, n := range numbers {
			p.Fail(n)
			for _, m := range numbers {
				p.Take(n, m)
				p.Next(0)
				p.Reply(0, api.Reply{Tag: n, Total: m, Offset: n})
				p.Next(0)
				p.Reply(0, api.Reply{Tag: 7, Total: m, Offset: n, Body: "abcd"})
			}
			for _, text := range oddText {
				p.Ask(n, text)
				p.Next(n)
				p.Reply(n, api.Reply{Tag: n, Total: n, Offset: n, Body: text})
			}
		}
	}
}
