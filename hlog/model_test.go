package hlog_test

import (
	"fmt"
	"maps"
	"slices"
	"testing"

	"haycroft/api"
	"haycroft/device"
	"haycroft/frame"
	"haycroft/hlog"
)

// The bounds, the kinds and the errors as numbers, written out, so that nothing here leans on the program's own ones.
const (
	mostActions = 16
	mostFly     = 32
)

const (
	readOnly = iota
	safe
	flushed
	head
	gone
)

const (
	noRegion = iota
	mutable
	fuzzy
	still
	disk
)

const (
	actReadOnly = 1
	actHead     = 2
)

const (
	ok       = api.Errno(0)
	errArg   = api.Errno(1)
	errNil   = api.Errno(2)
	errLong  = api.Errno(5)
	errDown  = api.Errno(6)
	errNone  = api.Errno(7)
	errThere = api.Errno(8)
	errFull  = api.Errno(9)
	errBusy  = api.Errno(10)
	errWait  = api.Errno(11)
	errOver  = api.Errno(13)
)

// asked is a write or a read of the device, from its asking on; the ticket is one more than its place.
type asked struct {
	block  api.Block
	write  bool
	text   string
	page   int  // of a Flush; -1 of all else
	flying bool // the device has it under way
	answer bool // it has an answer of it that nobody took
	landed bool // the log took it
	lost   bool // the log found neither
}

// model is a log, with its device, as the chapters tell it.
type model struct {
	size   int
	space  int
	frames int
	page   int
	offset int
	in     map[int][]uint64
	marks  [5]int
	now    uint64
	seen   []uint64
	waits  []api.Action
	off    bool
	all    []asked
	blocks map[api.Block]string
}

func newModel(c api.Config) *model {
	size := 1
	for range c.Bits {
		size *= 2
	}
	return &model{
		size:   size,
		space:  c.Space,
		frames: c.Frames,
		offset: 1,
		in:     map[int][]uint64{0: make([]uint64, size)},
		now:    1,
		seen:   make([]uint64, c.Sessions),
		blocks: map[api.Block]string{},
	}
}

func (m *model) over() bool   { return m.offset > m.size }
func (m *model) last() bool   { return m.page == m.space-1 }
func (m *model) most() int    { return min(m.offset, m.size) }
func (m *model) addr() uint64 { return uint64(m.page*m.size + m.most()) }

// need is one more than the page that must be gone, or 0.
func (m *model) need() int {
	if m.page+1 < m.frames {
		return 0
	}
	return m.page + 1 - m.frames + 1
}

func (m *model) somebody() bool {
	for _, s := range m.seen {
		if s != 0 {
			return true
		}
	}
	return false
}

func (m *model) begin(page int) api.Errno {
	if m.addr() != 1 || m.now != 1 || m.marks[readOnly] != 0 || m.somebody() {
		return errThere
	}
	if page < 0 || page > m.space-1 {
		return errArg
	}
	m.page, m.offset = page, 0
	if page == 0 {
		m.offset = 1
	}
	m.marks = [5]int{page, page, page, page, page}
	if page != 0 {
		delete(m.in, 0)
		m.in[page] = make([]uint64, m.size)
	}
	return ok
}

func (m *model) take(n int) (uint64, int, api.Errno) {
	switch {
	case n < 1:
		return 0, 0, errArg
	case n > m.size:
		return 0, 0, errLong
	}
	full := 3
	if !m.over() {
		a := m.addr()
		m.offset += n
		if !m.over() {
			return a, 1, ok
		}
		full = 2
	}
	if m.last() {
		full = 4
	}
	return 0, full, ok
}

func (m *model) turn() api.Errno {
	if !m.over() {
		return errNone
	}
	return m.goOn()
}

func (m *model) close() api.Errno {
	if m.offset == 0 {
		return ok
	}
	return m.goOn()
}

func (m *model) goOn() api.Errno {
	if m.last() {
		return errFull
	}
	if m.marks[gone] < m.need() {
		m.help()
		return errWait
	}
	delete(m.in, m.page+1-m.frames)
	m.page, m.offset = m.page+1, 0
	m.in[m.page] = make([]uint64, m.size)
	return ok
}

func (m *model) help() bool {
	need := m.need()
	if m.marks[head] >= need || m.last() {
		return false
	}
	if m.marks[flushed] >= need {
		return m.shift(head, need) == ok
	}
	if m.marks[safe] >= need {
		for page := m.marks[flushed]; page < need; page++ {
			if !m.hasLanded(page) && !m.flies(page) {
				_, e := m.flush(page)
				return e == ok
			}
		}
	}
	if m.marks[readOnly] < need {
		return m.shift(readOnly, need) == ok
	}
	return false
}

// most of a mark: the tail's page, or the mark ahead of it.
func (m *model) shift(mark, page int) api.Errno {
	if len(m.waits) == mostActions {
		return errFull
	}
	most, kind := m.page, actReadOnly
	if mark == head {
		most, kind = m.marks[flushed], actHead
	}
	if page <= m.marks[mark] {
		return errThere
	}
	if page > most {
		return errOver
	}
	m.marks[mark] = page
	m.waits = append(m.waits, api.Action{Epoch: m.now, Kind: kind, Page: page})
	m.now++
	m.settle()
	return ok
}

func (m *model) settle() int {
	least := m.now
	for _, s := range m.seen {
		if s != 0 && s < least {
			least = s
		}
	}
	var rest []api.Action
	n := 0
	for _, a := range m.waits {
		if a.Epoch >= least {
			rest = append(rest, a)
			continue
		}
		n++
		mark := safe
		if a.Kind == actHead {
			mark = gone
		}
		m.marks[mark] = max(m.marks[mark], a.Page)
	}
	m.waits = rest
	return n
}

func (m *model) hasLanded(page int) bool {
	for _, a := range m.all {
		if a.page == page && a.landed {
			return true
		}
	}
	return false
}

func (m *model) flies(page int) bool {
	for _, a := range m.all {
		if page >= 0 && a.page == page && !a.landed && !a.lost {
			return true
		}
	}
	return false
}

func (m *model) flush(page int) (int, api.Errno) {
	if page < 0 {
		return 0, errArg
	}
	if page < m.marks[flushed] || m.hasLanded(page) || m.flies(page) {
		return 0, errThere
	}
	if page >= m.marks[safe] {
		return 0, errOver
	}
	text, e := frame.Pack(page, m.in[page])
	if e != ok {
		return 0, e
	}
	return m.ask(asked{block: api.Block{Area: 0, No: page}, write: true, text: text, page: page})
}

func (m *model) land() int {
	n := 0
	for i := range m.all {
		a := &m.all[i]
		if a.page < 0 || a.landed || a.lost || a.flying {
			continue
		}
		if a.answer {
			a.answer, a.landed = false, true
			n++
		} else {
			a.lost = true
		}
	}
	for m.hasLanded(m.marks[flushed]) {
		m.marks[flushed]++
	}
	return n
}

func (m *model) region(a uint64) int {
	page := a / uint64(m.size)
	switch {
	case a >= 1<<48 || page > uint64(m.page):
		return noRegion
	case int(page) >= m.marks[readOnly]:
		return mutable
	case int(page) >= m.marks[safe]:
		return fuzzy
	case int(page) >= m.marks[head]:
		return still
	}
	return disk
}

func (m *model) flight() []int {
	var l []int
	for i, a := range m.all {
		if a.flying {
			l = append(l, i+1)
		}
	}
	return l
}

func (m *model) ask(a asked) (int, api.Errno) {
	if m.off {
		return 0, errDown
	}
	for _, b := range m.all {
		if a.write && b.write && b.flying && a.block == b.block {
			return 0, errBusy
		}
	}
	if len(m.flight()) == mostFly {
		return 0, errFull
	}
	a.flying = true
	m.all = append(m.all, a)
	return len(m.all), ok
}

func (m *model) do(ticket int) api.Errno {
	if m.off {
		return errDown
	}
	if ticket < 1 || ticket > len(m.all) || !m.all[ticket-1].flying {
		return errNone
	}
	a := &m.all[ticket-1]
	a.flying, a.answer = false, true
	if a.write {
		m.blocks[a.block] = a.text
	} else if _, there := m.blocks[a.block]; !there {
		a.answer = false
	}
	return ok
}

// crash: what is under way leaves nothing.
func (m *model) crash() {
	m.off = true
	for i := range m.all {
		m.all[i].flying, m.all[i].answer = false, false
	}
}

// run is a log, its device, and what both should be.
type run struct {
	t     *testing.T
	c     api.Config
	l     *hlog.Log
	d     *device.Device
	m     *model
	quiet bool // it isn't looked at behind each call
}

// config: pages of 32 words, unless it is said; the parts that count for nothing are wrong.
func config(frames, space, sessions int) api.Config {
	return api.Config{Bits: 5, Frames: frames, Space: space, Buckets: -1, Spare: -1, Sessions: sessions}
}

// made is a new log that must be there.
func made(t *testing.T, c api.Config) *run {
	t.Helper()
	d := device.New()
	l, e := hlog.New(c, d)
	if e != ok || l == nil {
		t.Fatalf("New(%+v) tells %d, %v", c, e, l)
	}
	r := &run{t: t, c: c, l: l, d: d, m: newModel(c)}
	r.stands()
	return r
}

// silent is a new log that isn't looked at behind each call.
func silent(t *testing.T, c api.Config) *run {
	d := device.New()
	l, _ := hlog.New(c, d)
	return &run{t: t, c: c, l: l, d: d, m: newModel(c), quiet: true}
}

// view is all that the model can tell.
func (m *model) view() string {
	s := fmt.Sprintln("tail", m.page, m.most(), m.over(), m.addr(), m.last(), "marks", m.marks, "epoch", m.now, m.seen, "waits", m.waits, "flight", m.flight())
	for page := -1; page <= m.space; page++ {
		region := noRegion
		if page >= 0 {
			region = m.region(uint64(page * m.size))
		}
		s += fmt.Sprintln(page, m.flies(page), region, m.in[page])
	}
	for _, b := range slices.SortedFunc(maps.Keys(m.blocks), byPlace) {
		s += fmt.Sprintf("%v %x\n", b, m.blocks[b])
	}
	return s
}

func byPlace(a, b api.Block) int { return (a.Area-b.Area)*1000 + a.No - b.No }

// view is all that the log tells, laid out likewise.
func (r *run) view() string {
	l, d := r.l, r.d
	var seen []uint64
	for s := range r.c.Sessions {
		seen = append(seen, l.Epoch().Seen(s))
	}
	tl := l.Tail()
	s := fmt.Sprintln("tail", tl.Page(), tl.Offset(), tl.Over(), tl.Addr(), tl.Last(), "marks", l.Marks().All(), "epoch", l.Epoch().Now(), seen, "waits", l.Waiting(), "flight", d.Flight())
	for page := -1; page <= r.c.Space; page++ {
		region := noRegion
		if page >= 0 {
			region = l.Region(uint64(page * r.m.size))
		}
		words, _ := l.Pages().Page(page)
		s += fmt.Sprintln(page, l.Flying(page), region, words)
	}
	for _, b := range d.Blocks() {
		text, _ := d.Peek(b)
		s += fmt.Sprintf("%v %x\n", b, text)
	}
	return s
}

// alike: does the log tell what the model tells?
func (r *run) alike() bool {
	l, m := r.l, r.m
	tl := l.Tail()
	if tl.Page() != m.page || tl.Offset() != m.most() || tl.Over() != m.over() || tl.Addr() != m.addr() || tl.Last() != m.last() {
		return false
	}
	if !slices.Equal(l.Marks().All(), m.marks[:]) || l.Epoch().Now() != m.now || !slices.Equal(l.Waiting(), m.waits) {
		return false
	}
	for s, seen := range m.seen {
		if l.Epoch().Seen(s) != seen {
			return false
		}
	}
	for page := -1; page <= m.space; page++ {
		words, _ := l.Pages().Page(page)
		if l.Flying(page) != m.flies(page) || !slices.Equal(words, m.in[page]) {
			return false
		}
		if page >= 0 && l.Region(uint64(page*m.size)) != m.region(uint64(page*m.size)) {
			return false
		}
	}
	return len(l.Pages().In()) == len(m.in) && len(m.in) <= r.c.Frames && r.alikeDevice()
}

// alikeDevice: is the device the model's?
func (r *run) alikeDevice() bool {
	for b, text := range r.m.blocks {
		if is, there := r.d.Peek(b); is != text || !there {
			return false
		}
	}
	return len(r.d.Blocks()) == len(r.m.blocks) && slices.Equal(r.d.Flight(), r.m.flight()) && r.d.On() == !r.m.off
}

// stands: the log tells what the model tells, twice, since to tell changes nothing.
func (r *run) stands() {
	r.t.Helper()
	if r.quiet {
		return
	}
	for range 2 {
		if !r.alike() {
			r.t.Fatalf("is\n%s, not\n%s", r.view(), r.m.view())
		}
	}
}

// after: a call told what is asked, and so did the model's.
func (r *run) after(what string, is, model, want any) {
	r.t.Helper()
	if is != want || model != want {
		r.t.Fatalf("%s tells %v, the model's %v, not %v: %s", what, is, model, want, r.view())
	}
	r.stands()
}

func (r *run) begin(page int, want api.Errno) {
	r.t.Helper()
	r.after(fmt.Sprintf("Begin(%d)", page), r.l.Begin(page), r.m.begin(page), want)
}

type room struct {
	a    uint64
	kind int
	e    api.Errno
}

func (r *run) take(n int, a uint64, kind int, e api.Errno) {
	r.t.Helper()
	var is, model room
	is.a, is.kind, is.e = r.l.Take(n)
	model.a, model.kind, model.e = r.m.take(n)
	r.after(fmt.Sprintf("Take(%d)", n), is, model, room{a, kind, e})
}

func (r *run) turn(want api.Errno) {
	r.t.Helper()
	r.after("Turn", r.l.Turn(), r.m.turn(), want)
}

func (r *run) close(want api.Errno) {
	r.t.Helper()
	r.after("Close", r.l.Close(), r.m.close(), want)
}

func (r *run) help(want bool) {
	r.t.Helper()
	r.after("Help", r.l.Help(), r.m.help(), want)
}

func (r *run) readOnly(page int, want api.Errno) {
	r.t.Helper()
	r.after(fmt.Sprintf("ShiftReadOnly(%d)", page), r.l.ShiftReadOnly(page), r.m.shift(readOnly, page), want)
}

func (r *run) head(page int, want api.Errno) {
	r.t.Helper()
	r.after(fmt.Sprintf("ShiftHead(%d)", page), r.l.ShiftHead(page), r.m.shift(head, page), want)
}

type ticket struct {
	n int
	e api.Errno
}

func (r *run) flush(page int, n int, e api.Errno) {
	r.t.Helper()
	var is, model ticket
	is.n, is.e = r.l.Flush(page)
	model.n, model.e = r.m.flush(page)
	r.after(fmt.Sprintf("Flush(%d)", page), is, model, ticket{n, e})
}

func (r *run) land(want int) {
	r.t.Helper()
	r.after("Land", r.l.Land(), r.m.land(), want)
}

func (r *run) settle(want int) {
	r.t.Helper()
	r.after("Settle", r.l.Settle(), r.m.settle(), want)
}

// enter, refresh, leave, bump, do, fly, peeks, crash, start, store: what others do to the log's parts and its device.
func (r *run) enter(s int) {
	r.t.Helper()
	if e := r.l.Epoch().Enter(s); e != ok {
		r.t.Fatalf("Enter(%d) tells %d", s, e)
	}
	r.m.seen[s] = r.m.now
	r.stands()
}

func (r *run) refresh(s int) {
	r.t.Helper()
	if e := r.l.Epoch().Refresh(s); e != ok {
		r.t.Fatalf("Refresh(%d) tells %d", s, e)
	}
	r.m.seen[s] = r.m.now
	r.stands()
}

func (r *run) leave(s int) {
	r.t.Helper()
	if e := r.l.Epoch().Leave(s); e != ok {
		r.t.Fatalf("Leave(%d) tells %d", s, e)
	}
	r.m.seen[s] = 0
	r.stands()
}

func (r *run) bump() {
	r.t.Helper()
	r.l.Epoch().Bump()
	r.m.now++
	r.stands()
}

func (r *run) do(n int) {
	r.t.Helper()
	r.after(fmt.Sprintf("Do(%d)", n), r.d.Do(n), r.m.do(n), ok)
}

// write and read are asked of the device by somebody else.
func (r *run) write(b api.Block, s string) {
	r.t.Helper()
	n, e := r.d.Write(b, s)
	m, me := r.m.ask(asked{block: b, write: true, text: s, page: -1})
	r.after("Write", ticket{n, e}, ticket{m, me}, ticket{n, ok})
}

func (r *run) read(b api.Block) {
	r.t.Helper()
	n, e := r.d.Read(b)
	m, me := r.m.ask(asked{block: b, page: -1})
	r.after("Read", ticket{n, e}, ticket{m, me}, ticket{n, ok})
}

func (r *run) crash() {
	r.t.Helper()
	r.m.crash()
	r.after("Crash", r.d.Crash(nil), ok, ok)
}

func (r *run) start() {
	r.t.Helper()
	r.m.off = false
	r.after("Start", r.d.Start(), ok, ok)
}

func (r *run) store(a, w uint64) {
	r.t.Helper()
	if e := r.l.Pages().Store(a, w); e != ok {
		r.t.Fatalf("Store(%d) tells %d", a, e)
	}
	r.m.in[int(a)/r.m.size][int(a)%r.m.size] = w
	r.stands()
}

// fill takes what is left of the tail's page, and one word more: the tail is over.
func (r *run) fill() {
	r.t.Helper()
	for n := 0; !r.m.over(); n++ {
		if n > 2 {
			r.t.Fatalf("the tail can't be filled: %s", r.m.view())
		}
		words := max(1, r.m.size-r.m.most())
		was := *r.m
		a, kind, e := was.take(words)
		r.take(words, a, kind, e)
	}
}

// to goes on from page to page, while there are frames that had none.
func (r *run) to(page int) {
	r.t.Helper()
	for r.m.page < page {
		r.fill()
		r.turn(ok)
	}
}

// landed has pages from the first that isn't on the device to there: each is flushed, and lands.
func (r *run) landed(to int) {
	r.t.Helper()
	for page := r.m.marks[flushed]; page < to; page++ {
		n := len(r.m.all) + 1
		r.flush(page, n, ok)
		r.do(n)
		r.land(1)
	}
}

// full has the list of actions full: somebody is in, and the tail is led on by hand, so that there is much to be made read-only.
func full(t *testing.T) *run {
	t.Helper()
	r := made(t, config(2, 64, 2))
	r.enter(1)
	r.byHand(62)
	for page := 1; page <= mostActions; page++ {
		r.readOnly(page, ok)
	}
	return r
}

// byHand leads the tail to a page; no page is opened, or closed.
func (r *run) byHand(page int) {
	r.t.Helper()
	if e := r.l.Tail().Begin(page); e != ok {
		r.t.Fatalf("the tail's Begin(%d) tells %d", page, e)
	}
	r.m.page, r.m.offset = page, 0
	if page == 0 {
		r.m.offset = 1
	}
	r.stands()
}
