package device_test

import (
	"fmt"
	"math"
	"math/rand"
	"slices"
	"strings"
	"testing"

	"haycroft/api"
	"haycroft/device"
)

// The bounds of the chapter as numbers, written out, so that nothing here leans on the program's own ones.
const (
	areas     = 3
	numbers   = 64
	mostBytes = 131072
	mostFly   = 32
)

// What became of something that was asked.
const (
	flies = iota
	done
	gone
)

// asked is a write or a read, from its asking on.
type asked struct {
	block  api.Block
	write  bool
	text   string
	state  int
	there  bool // of what is done: there is an answer of it
	answer string
}

// model is a device as the chapter tells it: all that was ever asked, the ticket one more than its place, and a table of all blocks.
type model struct {
	off    bool
	all    []asked
	blocks [areas][numbers]*string
}

func may(b api.Block) bool {
	return b.Area >= 0 && b.Area < areas && b.No >= 0 && b.No < numbers
}

func (m *model) flight() []int {
	var l []int
	for i, a := range m.all {
		if a.state == flies {
			l = append(l, i+1)
		}
	}
	return l
}

func (m *model) ask(a asked) (int, api.Errno) {
	if len(m.flight()) >= mostFly {
		return 0, api.ErrFull
	}
	m.all = append(m.all, a)
	return len(m.all), api.OK
}

func (m *model) write(b api.Block, s string) (int, api.Errno) {
	if m.off {
		return 0, api.ErrDown
	}
	if !may(b) {
		return 0, api.ErrArg
	}
	if len(s) > mostBytes {
		return 0, api.ErrLong
	}
	for _, a := range m.all {
		if a.state == flies && a.write && a.block.Area == b.Area && a.block.No == b.No {
			return 0, api.ErrBusy
		}
	}
	return m.ask(asked{block: b, write: true, text: s})
}

func (m *model) read(b api.Block) (int, api.Errno) {
	if m.off {
		return 0, api.ErrDown
	}
	if !may(b) {
		return 0, api.ErrArg
	}
	return m.ask(asked{block: b})
}

func (m *model) do(ticket int) api.Errno {
	if m.off {
		return api.ErrDown
	}
	if ticket < 1 || ticket > len(m.all) || m.all[ticket-1].state != flies {
		return api.ErrNone
	}
	a := &m.all[ticket-1]
	a.state, a.there = done, true
	p := &m.blocks[a.block.Area][a.block.No]
	switch {
	case a.write:
		s := a.text
		*p = &s
	case *p == nil:
		a.there = false
	default:
		a.answer = **p
	}
	return api.OK
}

func (m *model) take(ticket int) (string, api.Errno) {
	if m.off {
		return "", api.ErrDown
	}
	if ticket < 1 || ticket > len(m.all) || m.all[ticket-1].state == gone {
		return "", api.ErrNone
	}
	a := &m.all[ticket-1]
	if a.state == flies {
		return "", api.ErrBusy
	}
	a.state = gone
	if !a.there {
		return "", api.ErrNone
	}
	return a.answer, api.OK
}

// mixed lays byte for byte what a write leaves, of which n bytes were laid.
func mixed(had, tobe string, n int) string {
	var b []byte
	for i := 0; i < n || i < len(had); i++ {
		if i < n {
			b = append(b, tobe[i])
		} else {
			b = append(b, had[i])
		}
	}
	return string(b)
}

func (m *model) crash(picks []int) api.Errno {
	if m.off {
		return api.ErrDown
	}
	nth := 0
	for i := range m.all {
		a := &m.all[i]
		if a.state == flies && a.write {
			pick := 0
			if nth < len(picks) {
				pick = picks[nth]
			}
			nth++
			p := &m.blocks[a.block.Area][a.block.No]
			if pick == 1 {
				s := a.text
				*p = &s
			} else if pick >= 2 {
				had := ""
				if *p != nil {
					had = **p
				}
				round := len(a.text) + 1
				n := pick - 2
				n -= n / round * round
				s := mixed(had, a.text, n)
				*p = &s
			}
		}
		a.state = gone
	}
	m.off = true
	return api.OK
}

func (m *model) start() api.Errno {
	if !m.off {
		return api.ErrBusy
	}
	m.off = false
	return api.OK
}

func (m *model) there() []api.Block {
	var l []api.Block
	for area := range areas {
		for no := range numbers {
			if m.blocks[area][no] != nil {
				l = append(l, api.Block{Area: area, No: no})
			}
		}
	}
	return l
}

// view is all that a device tells without being changed.
func view(d *device.Device) string {
	var b strings.Builder
	fmt.Fprint(&b, d.On(), d.Flight(), d.Blocks())
	for area := -1; area <= areas; area++ {
		for no := -1; no <= numbers; no++ {
			if s, ok := d.Peek(api.Block{Area: area, No: no}); ok || s != "" {
				fmt.Fprintf(&b, " %d/%d %v %q", area, no, ok, s)
			}
		}
	}
	return b.String()
}

func (m *model) view() string {
	var b strings.Builder
	fmt.Fprint(&b, !m.off, m.flight(), m.there())
	for _, x := range m.there() {
		fmt.Fprintf(&b, " %d/%d true %q", x.Area, x.No, *m.blocks[x.Area][x.No])
	}
	return b.String()
}

func at(area, no int) api.Block {
	return api.Block{Area: area, No: no}
}

func write(t *testing.T, d *device.Device, b api.Block, s string) int {
	t.Helper()
	n, e := d.Write(b, s)
	if e != api.OK {
		t.Fatalf("Write(%v) of %d bytes tells %d", b, len(s), e)
	}
	return n
}

func read(t *testing.T, d *device.Device, b api.Block) int {
	t.Helper()
	n, e := d.Read(b)
	if e != api.OK {
		t.Fatalf("Read(%v) tells %d", b, e)
	}
	return n
}

func do(t *testing.T, d *device.Device, tickets ...int) {
	t.Helper()
	for _, n := range tickets {
		if e := d.Do(n); e != api.OK {
			t.Fatalf("Do(%d) tells %d", n, e)
		}
	}
}

// put is a write that is done, its answer taken.
func put(t *testing.T, d *device.Device, b api.Block, s string) {
	t.Helper()
	n := write(t, d, b, s)
	do(t, d, n)
	took(t, d, n, "", api.OK)
}

func took(t *testing.T, d *device.Device, ticket int, want string, err api.Errno) {
	t.Helper()
	if s, e := d.Take(ticket); s != want || e != err {
		t.Fatalf("Take(%d) is %q, %d, not %q, %d", ticket, s, e, want, err)
	}
}

func crash(t *testing.T, d *device.Device, picks ...int) {
	t.Helper()
	if e := d.Crash(picks); e != api.OK {
		t.Fatalf("Crash tells %d", e)
	}
}

func start(t *testing.T, d *device.Device) {
	t.Helper()
	if e := d.Start(); e != api.OK {
		t.Fatalf("Start tells %d", e)
	}
}

func has(t *testing.T, d *device.Device, b api.Block, want string) {
	t.Helper()
	if s, ok := d.Peek(b); s != want || !ok {
		t.Fatalf("Peek(%v) is %q, %v, not %q, true", b, s, ok, want)
	}
}

func hasnt(t *testing.T, d *device.Device, b api.Block) {
	t.Helper()
	if s, ok := d.Peek(b); s != "" || ok {
		t.Fatalf("Peek(%v) is %q, %v, not nothing", b, s, ok)
	}
}

func inFlight(t *testing.T, d *device.Device, want ...int) {
	t.Helper()
	if g := d.Flight(); !slices.Equal(g, want) {
		t.Fatalf("Flight is %v, not %v", g, want)
	}
}

// refused: the call tells the error, a ticket of 0, and changes nothing that is told.
func refused(t *testing.T, d *device.Device, want api.Errno, what string, call func() (int, api.Errno)) {
	t.Helper()
	was := view(d)
	if n, e := call(); n != 0 || e != want {
		t.Fatalf("%s is %d, %d, not 0, %d", what, n, e, want)
	}
	if g := view(d); g != was {
		t.Fatalf("%s, refused, makes %s from %s", what, g, was)
	}
}

func noWrite(t *testing.T, d *device.Device, want api.Errno, b api.Block, s string) {
	t.Helper()
	refused(t, d, want, fmt.Sprintf("Write(%v) of %d bytes", b, len(s)), func() (int, api.Errno) { return d.Write(b, s) })
}

func noRead(t *testing.T, d *device.Device, want api.Errno, b api.Block) {
	t.Helper()
	refused(t, d, want, fmt.Sprintf("Read(%v)", b), func() (int, api.Errno) { return d.Read(b) })
}

func noDo(t *testing.T, d *device.Device, want api.Errno, ticket int) {
	t.Helper()
	refused(t, d, want, fmt.Sprintf("Do(%d)", ticket), func() (int, api.Errno) { return 0, d.Do(ticket) })
}

func noTake(t *testing.T, d *device.Device, want api.Errno, ticket int) {
	t.Helper()
	refused(t, d, want, fmt.Sprintf("Take(%d)", ticket), func() (int, api.Errno) {
		s, e := d.Take(ticket)
		return len(s), e
	})
}

// fill asks for reads till so many are under way.
func fill(t *testing.T, d *device.Device, many int) {
	t.Helper()
	for len(d.Flight()) < many {
		read(t, d, at(0, 0))
	}
}

// bytesOf is a text in which all 256 bytes come, if it is long enough, of no round period.
func bytesOf(n int) string {
	b := make([]byte, n)
	for i := range b {
		b[i] = byte(i + i/251)
	}
	return string(b)
}

var wrongPlaces = []api.Block{
	{Area: -1}, {Area: 3}, {No: -1}, {No: 64}, {Area: -1, No: -1}, {Area: 3, No: 64}, {Area: 2, No: 64}, {Area: 2, No: -1},
	{Area: 3, No: 63}, {Area: -1, No: 63}, {Area: math.MinInt}, {Area: math.MaxInt}, {No: math.MinInt}, {No: math.MaxInt},
	{Area: 1, No: 64}, {Area: 1, No: -1}, {Area: 4, No: 0}, {Area: 64, No: 2},
}

// The limits that the chapter names are those of api.
func TestLimits(t *testing.T) {
	if api.MaxNo != numbers || api.MaxBlock != mostBytes || api.MaxFlight != mostFly {
		t.Error(api.MaxNo, api.MaxBlock, api.MaxFlight)
	}
	if api.AreaLog != 0 || api.AreaImage != 1 || api.AreaCommit != 2 {
		t.Error(api.AreaLog, api.AreaImage, api.AreaCommit)
	}
}

// P11.1

// Tickets are counted from 1 on, of writes and reads alike, whatever is done between.
func TestTicketsRise(t *testing.T) {
	d := device.New()
	for want := 1; want <= 100; want++ {
		var n int
		if want%3 == 0 {
			n = read(t, d, at(want%3, want%5))
		} else {
			n = write(t, d, at(want%3, want%64), "x")
		}
		if n != want {
			t.Fatalf("the ticket is %d, not %d", n, want)
		}
		if want%2 == 0 {
			do(t, d, want, want-1)
		}
		if want%8 == 0 {
			d.Take(want)
		}
	}
}

func TestPlacesThatMayBe(t *testing.T) {
	d := device.New()
	for area := range areas {
		for no := range numbers {
			b := at(area, no)
			n := write(t, d, b, fmt.Sprint(b))
			r := read(t, d, b)
			do(t, d, n, r)
			took(t, d, n, "", api.OK)
			took(t, d, r, fmt.Sprint(b), api.OK)
		}
	}
	for area := range areas {
		for no := range numbers {
			has(t, d, at(area, no), fmt.Sprint(at(area, no)))
		}
	}
}

func TestPlacesThatMayNotBe(t *testing.T) {
	d := device.New()
	for _, b := range wrongPlaces {
		noWrite(t, d, api.ErrArg, b, "x")
		noWrite(t, d, api.ErrArg, b, "")
		noRead(t, d, api.ErrArg, b)
		hasnt(t, d, b)
	}
	if n := write(t, d, at(0, 0), ""); n != 1 {
		t.Errorf("what was refused used up tickets: the first one is %d", n)
	}
}

func TestLengthsOfTexts(t *testing.T) {
	d := device.New()
	for i, n := range []int{0, 1, 2, 255, 256, 257, mostBytes - 1, mostBytes} {
		b, s := at(i%3, i), bytesOf(n)
		put(t, d, b, s)
		has(t, d, b, s)
		r := read(t, d, b)
		do(t, d, r)
		took(t, d, r, s, api.OK)
	}
	for _, n := range []int{mostBytes + 1, mostBytes + 2, 2 * mostBytes} {
		noWrite(t, d, api.ErrLong, at(0, 0), bytesOf(n))
		noWrite(t, d, api.ErrLong, at(2, 63), bytesOf(n))
	}
	if n := write(t, d, at(0, 0), ""); n != 17 {
		t.Errorf("what was refused used up tickets: the next one is %d", n)
	}
}

// One write of a block at a time, and reads beside it; writes of its neighbours don't count.
func TestWriteOfABlockThatIsWritten(t *testing.T) {
	d := device.New()
	b := at(1, 5)
	first := write(t, d, b, "one")
	noWrite(t, d, api.ErrBusy, b, "two")
	noWrite(t, d, api.ErrBusy, b, "one")
	noWrite(t, d, api.ErrBusy, b, "")
	for _, x := range []api.Block{at(0, 5), at(2, 5), at(1, 4), at(1, 6), at(5%3, 1)} {
		write(t, d, x, "x")
	}
	hasnt(t, d, b)
	do(t, d, first)
	has(t, d, b, "one")
	second := write(t, d, b, "two") // its answer isn't taken: that is no hindrance
	noWrite(t, d, api.ErrBusy, b, "three")
	has(t, d, b, "one")
	do(t, d, second)
	has(t, d, b, "two")
	crashed := write(t, d, b, "three")
	crash(t, d)
	start(t, d)
	has(t, d, b, "two")
	if n := write(t, d, b, "four"); n != crashed+1 {
		t.Errorf("the ticket is %d, not %d", n, crashed+1)
	}
}

// A read that is under way hinders neither a write nor a read, and a write no read.
func TestReadsHinderNothing(t *testing.T) {
	d := device.New()
	b := at(0, 7)
	read(t, d, b)
	w := write(t, d, b, "w")
	noWrite(t, d, api.ErrBusy, b, "v")
	read(t, d, b)
	read(t, d, b)
	inFlight(t, d, 1, 2, 3, 4)
	do(t, d, w)
	write(t, d, b, "u")
	inFlight(t, d, 1, 3, 4, 5)
}

func TestThirtyTwoAreUnderWay(t *testing.T) {
	for _, writes := range []bool{false, true} {
		d := device.New()
		ask := func(i int) (int, api.Errno) {
			if writes {
				return d.Write(at(i%3, i), "x")
			}
			return d.Read(at(0, 0))
		}
		for i := range mostFly {
			if n, e := ask(i); n != i+1 || e != api.OK {
				t.Fatalf("with %d under way: %d, %d", i, n, e)
			}
		}
		noWrite(t, d, api.ErrFull, at(0, 63), "x")
		noRead(t, d, api.ErrFull, at(0, 63))
		do(t, d, 17)
		if g := len(d.Flight()); g != mostFly-1 {
			t.Fatalf("%d are under way", g)
		}
		if n, e := ask(40); n != 33 || e != api.OK {
			t.Fatalf("with 31 under way: %d, %d", n, e)
		}
		noWrite(t, d, api.ErrFull, at(0, 63), "x")
		noRead(t, d, api.ErrFull, at(0, 63))
		crash(t, d)
		start(t, d)
		if n, e := ask(0); n != 34 || e != api.OK {
			t.Fatalf("behind a crash: %d, %d", n, e)
		}
	}
}

// Answers that weren't taken are no longer under way.
func TestAnswersTakeNoRoom(t *testing.T) {
	d := device.New()
	for i := range 5 * mostFly {
		do(t, d, write(t, d, at(1, i%numbers), fmt.Sprint(i)))
	}
	fill(t, d, mostFly)
	for i := range 5 * mostFly {
		took(t, d, i+1, "", api.OK)
	}
	noRead(t, d, api.ErrFull, at(0, 0))
}

// Which error comes first, where all behind it hold too, as far as they can.
func TestFirstErrorOfAsking(t *testing.T) {
	d := device.New()
	busy, free, long := at(1, 1), at(1, 2), bytesOf(mostBytes+1)
	write(t, d, busy, "x")
	noWrite(t, d, api.ErrArg, at(3, 0), long)
	noWrite(t, d, api.ErrLong, busy, long)
	noWrite(t, d, api.ErrLong, free, long)
	noWrite(t, d, api.ErrBusy, busy, "y")
	fill(t, d, mostFly)
	for _, b := range wrongPlaces {
		noWrite(t, d, api.ErrArg, b, long)
		noWrite(t, d, api.ErrArg, b, "y")
		noRead(t, d, api.ErrArg, b)
	}
	noWrite(t, d, api.ErrLong, busy, long)
	noWrite(t, d, api.ErrLong, free, long)
	noWrite(t, d, api.ErrBusy, busy, "y")
	noWrite(t, d, api.ErrFull, free, "y")
	noRead(t, d, api.ErrFull, busy)
	noRead(t, d, api.ErrFull, free)
	crash(t, d)
	noWrite(t, d, api.ErrDown, at(3, 0), long)
	noWrite(t, d, api.ErrDown, at(0, 64), "y")
	noWrite(t, d, api.ErrDown, busy, long)
	noWrite(t, d, api.ErrDown, busy, "y")
	noRead(t, d, api.ErrDown, at(-1, 0))
	noRead(t, d, api.ErrDown, free)
	start(t, d)
	if n := read(t, d, free); n != mostFly+1 {
		t.Errorf("what was refused used up tickets: the next one is %d", n)
	}
}

// P11.2

func TestExample(t *testing.T) {
	d := device.New()
	b := at(0, 3)
	if n := write(t, d, b, "abc"); n != 1 {
		t.Fatal(n)
	}
	hasnt(t, d, b)
	do(t, d, 1)
	has(t, d, b, "abc")
	took(t, d, 1, "", api.OK)
	took(t, d, 1, "", api.ErrNone)
}

// What is done is done once; what isn't under way can't be.
func TestTicketsThatAreNotUnderWay(t *testing.T) {
	d := device.New()
	never := []int{math.MinInt, -1, 0, 4, 5, math.MaxInt}
	put(t, d, at(0, 0), "a")
	w, r := write(t, d, at(0, 1), "b"), read(t, d, at(0, 0))
	check := func() {
		t.Helper()
		for _, n := range append([]int{1}, never...) {
			noDo(t, d, api.ErrNone, n)
			noTake(t, d, api.ErrNone, n)
		}
	}
	check()
	noTake(t, d, api.ErrBusy, w)
	noTake(t, d, api.ErrBusy, r)
	do(t, d, w, r)
	check()
	noDo(t, d, api.ErrNone, w)
	noDo(t, d, api.ErrNone, r)
	took(t, d, r, "a", api.OK)
	took(t, d, w, "", api.OK)
	noTake(t, d, api.ErrNone, w)
	noTake(t, d, api.ErrNone, r)
	noDo(t, d, api.ErrNone, w)
	noDo(t, d, api.ErrNone, r)
	check()
	if n := read(t, d, at(0, 0)); n != 4 {
		t.Errorf("what was refused used up tickets: the next one is %d", n)
	}
	noTake(t, d, api.ErrBusy, 4)
}

// A Take that is refused since it is under way leaves the answer to come.
func TestTakeAheadOfDo(t *testing.T) {
	d := device.New()
	put(t, d, at(2, 2), "abc")
	r := read(t, d, at(2, 2))
	w := write(t, d, at(2, 2), "de")
	for range 3 {
		noTake(t, d, api.ErrBusy, r)
		noTake(t, d, api.ErrBusy, w)
	}
	do(t, d, r, w)
	took(t, d, w, "", api.OK)
	took(t, d, r, "abc", api.OK)
}

// A read tells what the block has when it is done, not when it was asked.
func TestReadTellsWhatIsThereWhenItIsDone(t *testing.T) {
	d := device.New()
	b := at(2, 9)
	early := read(t, d, b)
	late := read(t, d, b)
	w := write(t, d, b, "first")
	behind := read(t, d, b)
	do(t, d, early) // ahead of the write: the block isn't there
	do(t, d, w, late)
	v := write(t, d, b, "second")
	do(t, d, behind) // the second write is asked, but not done
	last := read(t, d, b)
	do(t, d, v, last)
	write(t, d, b, "third")
	took(t, d, early, "", api.ErrNone)
	took(t, d, late, "first", api.OK)
	took(t, d, behind, "first", api.OK)
	took(t, d, last, "second", api.OK)
	for _, n := range []int{early, late, behind, last} {
		noTake(t, d, api.ErrNone, n)
	}
}

// Of a read of a block that wasn't there there is never an answer, though the block is there by then.
func TestReadOfABlockThatIsNotThere(t *testing.T) {
	d := device.New()
	b := at(1, 63)
	put(t, d, at(1, 62), "beside")
	put(t, d, at(2, 63), "beside")
	r := read(t, d, b)
	noTake(t, d, api.ErrBusy, r)
	do(t, d, r)
	inFlight(t, d)
	noDo(t, d, api.ErrNone, r)
	put(t, d, b, "late")
	noTake(t, d, api.ErrNone, r)
	noTake(t, d, api.ErrNone, r)
	noDo(t, d, api.ErrNone, r)
	hasnt(t, d, at(0, 63))
}

// A block without bytes is there.
func TestBlockWithoutBytes(t *testing.T) {
	d := device.New()
	b := at(0, 0)
	put(t, d, b, "")
	has(t, d, b, "")
	r := read(t, d, b)
	do(t, d, r)
	took(t, d, r, "", api.OK)
	took(t, d, r, "", api.ErrNone)
	put(t, d, b, "abc")
	put(t, d, b, "")
	has(t, d, b, "")
	if l := d.Blocks(); !slices.Equal(l, []api.Block{b}) {
		t.Error(l)
	}
}

// All orders of doing five things: what each tells hangs on the order of doing alone.
func TestAllOrdersOfDoing(t *testing.T) {
	b, c := at(0, 1), at(1, 0)
	orders := [][]int{{}}
	for n := 1; n <= 5; n++ {
		var more [][]int
		for _, o := range orders {
			for i := range len(o) + 1 {
				more = append(more, slices.Insert(slices.Clone(o), i, n))
			}
		}
		orders = more
	}
	if len(orders) != 120 {
		t.Fatal(len(orders))
	}
	for _, order := range orders {
		d := device.New()
		read(t, d, b)
		write(t, d, b, "one")
		write(t, d, c, "other")
		read(t, d, c)
		read(t, d, b)
		left := []int{1, 2, 3, 4, 5}
		tells := func(n int) (string, api.Errno) {
			w := map[int]int{1: 2, 4: 3, 5: 2}[n]
			switch {
			case w == 0:
				return "", api.OK
			case slices.Index(order, n) < slices.Index(order, w):
				return "", api.ErrNone
			}
			return map[int]string{2: "one", 3: "other"}[w], api.OK
		}
		for _, n := range order {
			do(t, d, n)
			left = slices.DeleteFunc(left, func(x int) bool { return x == n })
			inFlight(t, d, left...)
		}
		for n := range 5 {
			s, e := tells(n + 1)
			took(t, d, n+1, s, e)
			took(t, d, n+1, "", api.ErrNone)
		}
	}
}

// Answers stay as they were told, till they are taken, whatever becomes of their blocks.
func TestAnswersTakenLate(t *testing.T) {
	d := device.New()
	b := at(0, 4)
	var reads []int
	for i := range 50 {
		put(t, d, b, fmt.Sprint("v", i))
		r := read(t, d, b)
		do(t, d, r)
		reads = append(reads, r)
	}
	fill(t, d, mostFly)
	for _, i := range rand.New(rand.NewSource(11)).Perm(50) {
		took(t, d, reads[i], fmt.Sprint("v", i), api.OK)
		noTake(t, d, api.ErrNone, reads[i])
	}
	has(t, d, b, "v49")
}

// Flight tells rising tickets, in whichever order they were done.
func TestFlightRises(t *testing.T) {
	d := device.New()
	inFlight(t, d)
	src := rand.New(rand.NewSource(1))
	var want []int
	for range 300 {
		if len(want) < mostFly && src.Intn(3) > 0 {
			want = append(want, read(t, d, at(0, 0)))
		} else if len(want) > 0 {
			i := src.Intn(len(want))
			do(t, d, want[i])
			want = slices.Delete(want, i, i+1)
		}
		inFlight(t, d, want...)
		inFlight(t, d, want...)
	}
}

func TestFlightIsTheCallersOwn(t *testing.T) {
	d := device.New()
	fill(t, d, 9)
	l, k := d.Flight(), d.Flight()
	for i := range l {
		l[i] = -7
	}
	l = append(l[:2], 8, 8)
	inFlight(t, d, 1, 2, 3, 4, 5, 6, 7, 8, 9)
	if !slices.Equal(k, []int{1, 2, 3, 4, 5, 6, 7, 8, 9}) {
		t.Error("two answers share memory:", k, l)
	}
	was := d.Flight()
	do(t, d, 1, 5)
	if !slices.Equal(was, k) {
		t.Error("what was told has changed:", was)
	}
}

func TestFirstErrorOfDoAndTake(t *testing.T) {
	d := device.New()
	write(t, d, at(0, 0), "x")
	do(t, d, read(t, d, at(0, 0)))
	put(t, d, at(0, 1), "y")
	do(t, d, read(t, d, at(0, 1)))
	crash(t, d)
	for n := -1; n <= 6; n++ {
		noDo(t, d, api.ErrDown, n)
		noTake(t, d, api.ErrDown, n)
	}
	start(t, d)
	for n := -1; n <= 6; n++ {
		noDo(t, d, api.ErrNone, n)
		noTake(t, d, api.ErrNone, n)
	}
}

// P11.3

func TestNewDevice(t *testing.T) {
	d := device.New()
	if !d.On() || len(d.Flight()) != 0 || len(d.Blocks()) != 0 {
		t.Error(view(d))
	}
	if e := d.Start(); e != api.ErrBusy {
		t.Error(e)
	}
	for area := -1; area <= areas; area++ {
		for no := -1; no <= numbers; no++ {
			hasnt(t, d, at(area, no))
		}
	}
}

func TestDevicesShareNothing(t *testing.T) {
	d, o := device.New(), device.New()
	was := view(o)
	put(t, d, at(0, 0), "x")
	write(t, d, at(0, 1), "y")
	do(t, d, read(t, d, at(0, 0)))
	crash(t, d, 1)
	if g := view(o); g != was {
		t.Error(g)
	}
	if n := read(t, o, at(0, 0)); n != 1 {
		t.Error(n)
	}
}

// What a crash leaves of one write, by hand. A block that isn't there has a dash.
func TestPicks(t *testing.T) {
	for _, c := range []struct {
		had, tobe string
		pick      int
		want      string
	}{
		{"-", "abc", math.MinInt, "-"}, {"-", "abc", -1, "-"}, {"-", "abc", 0, "-"}, {"-", "abc", 1, "abc"},
		{"-", "abc", 2, ""}, {"-", "abc", 3, "a"}, {"-", "abc", 4, "ab"}, {"-", "abc", 5, "abc"},
		{"-", "abc", 6, ""}, {"-", "abc", 7, "a"}, {"-", "abc", 8, "ab"}, {"-", "abc", 9, "abc"}, {"-", "abc", 10, ""},
		{"-", "", -5, "-"}, {"-", "", 0, "-"}, {"-", "", 1, ""}, {"-", "", 2, ""}, {"-", "", 3, ""}, {"-", "", math.MaxInt, ""},
		{"", "ab", -1, ""}, {"", "ab", 0, ""}, {"", "ab", 1, "ab"}, {"", "ab", 2, ""}, {"", "ab", 3, "a"}, {"", "ab", 4, "ab"}, {"", "ab", 5, ""},
		{"WXYZ1", "", -1, "WXYZ1"}, {"WXYZ1", "", 0, "WXYZ1"}, {"WXYZ1", "", 1, ""}, {"WXYZ1", "", 2, "WXYZ1"}, {"WXYZ1", "", 3, "WXYZ1"}, {"WXYZ1", "", math.MaxInt, "WXYZ1"},
		{"WXYZ1", "abc", math.MinInt, "WXYZ1"}, {"WXYZ1", "abc", -2, "WXYZ1"}, {"WXYZ1", "abc", 0, "WXYZ1"}, {"WXYZ1", "abc", 1, "abc"},
		{"WXYZ1", "abc", 2, "WXYZ1"}, {"WXYZ1", "abc", 3, "aXYZ1"}, {"WXYZ1", "abc", 4, "abYZ1"}, {"WXYZ1", "abc", 5, "abcZ1"}, {"WXYZ1", "abc", 6, "WXYZ1"}, {"WXYZ1", "abc", 7, "aXYZ1"},
		{"abc", "WXYZ1", 0, "abc"}, {"abc", "WXYZ1", 1, "WXYZ1"}, {"abc", "WXYZ1", 2, "abc"}, {"abc", "WXYZ1", 3, "Wbc"}, {"abc", "WXYZ1", 4, "WXc"}, {"abc", "WXYZ1", 5, "WXY"},
		{"abc", "WXYZ1", 6, "WXYZ"}, {"abc", "WXYZ1", 7, "WXYZ1"}, {"abc", "WXYZ1", 8, "abc"}, {"abc", "WXYZ1", 9, "Wbc"},
		{"abc", "xyz", 2, "abc"}, {"abc", "xyz", 3, "xbc"}, {"abc", "xyz", 4, "xyc"}, {"abc", "xyz", 5, "xyz"},
		// The greatest int less 2 leaves 5 of 6 (the length 5 and one), 0 of 5, 1 of 4, 1 of 2, 5 of 7.
		{"abcdefgh", "WXYZ1", math.MaxInt, "WXYZ1fgh"}, {"abcdefgh", "WXYZ", math.MaxInt, "abcdefgh"}, {"abcdefgh", "WXY", math.MaxInt, "Wbcdefgh"},
		{"abcdefgh", "W", math.MaxInt, "Wbcdefgh"}, {"abc", "UVWXYZ", math.MaxInt, "UVWXY"}, {"-", "WXYZ", math.MaxInt, ""},
	} {
		d := device.New()
		b := at(2, 63)
		if c.had != "-" {
			put(t, d, b, c.had)
		}
		write(t, d, b, c.tobe)
		crash(t, d, c.pick)
		s, ok := d.Peek(b)
		if s == "" && !ok {
			s = "-"
		}
		if s != c.want || ok != (c.want != "-") || len(d.Blocks()) > 1 || (len(d.Blocks()) == 1) != ok {
			t.Errorf("%q, to be %q, by the pick %d: %q, %v, not %q", c.had, c.tobe, c.pick, s, ok, c.want)
		}
		start(t, d)
		if g, _ := d.Peek(b); ok && g != s {
			t.Errorf("behind a start: %q, not %q", g, s)
		}
	}
}

// All picks from 2 to beyond twice the length, of short texts and of the longest.
func TestTornWrites(t *testing.T) {
	for had := range 7 {
		for tobe := range 7 {
			for pick := 2; pick < 20; pick++ {
				d := device.New()
				h, w := "ABCDEFG"[:had], "hijklmn"[:tobe]
				put(t, d, at(0, 0), h)
				write(t, d, at(0, 0), w)
				crash(t, d, pick)
				n := pick - 2
				for n > tobe {
					n -= tobe + 1
				}
				has(t, d, at(0, 0), mixed(h, w, n))
			}
		}
	}
	whole, other := bytesOf(mostBytes), strings.Repeat("x", mostBytes)
	for _, n := range []int{0, 1, 4096, mostBytes - 1, mostBytes} {
		d := device.New()
		put(t, d, at(0, 0), other)
		write(t, d, at(0, 0), whole)
		crash(t, d, n+2)
		has(t, d, at(0, 0), whole[:n]+other[n:])
	}
}

// Picks go to writes alone, by their tickets, whatever is under way between.
func TestPicksGoToWrites(t *testing.T) {
	l := []api.Block{at(2, 1), at(0, 9), at(1, 4), at(0, 2)}
	for _, c := range []struct {
		picks []int
		want  []string // of the four writes
	}{
		{nil, []string{"", "", "", ""}},
		{[]int{}, []string{"", "", "", ""}},
		{[]int{1}, []string{"aaa", "", "", ""}},
		{[]int{0, 1}, []string{"", "bbb", "", ""}},
		{[]int{-1, 3, 4}, []string{"", "b", "cc", ""}},
		{[]int{1, 1, 1, 1}, []string{"aaa", "bbb", "ccc", "ddd"}},
		{[]int{3, 4, 5, 1}, []string{"a", "bb", "ccc", "ddd"}},
		{[]int{0, 0, 0, 1, 1, 1, 1}, []string{"", "", "", "ddd"}},
		{[]int{4, 0, 0, 4, 1, 1, 1, 1, 1, 1, 1, 1, 1}, []string{"aa", "", "", "dd"}},
	} {
		d := device.New()
		read(t, d, at(0, 0))
		gone := write(t, d, at(0, 1), "done")
		for i, b := range l {
			write(t, d, b, strings.Repeat(string(rune('a'+i)), 3))
			read(t, d, b)
			read(t, d, at(i%3, 60))
		}
		do(t, d, gone)
		crash(t, d, c.picks...)
		for i, b := range l {
			if c.want[i] == "" {
				hasnt(t, d, b)
			} else {
				has(t, d, b, c.want[i])
			}
		}
		has(t, d, at(0, 1), "done")
		inFlight(t, d)
	}
}

// Many writes, so that no order but that of the tickets would do.
func TestPicksByRisingTickets(t *testing.T) {
	d := device.New()
	picks := make([]int, mostFly)
	for i := range mostFly {
		write(t, d, at(i%3, (i*37)%numbers), fmt.Sprintf("%040d", i))
		picks[i] = i + 3
	}
	crash(t, d, picks...)
	for i := range mostFly {
		has(t, d, at(i%3, (i*37)%numbers), fmt.Sprintf("%040d", i)[:i+1])
	}
}

func TestPicksStayAsTheyWere(t *testing.T) {
	room := []int{9, 3, -4, 1, 8, 8}
	was := slices.Clone(room)
	d := device.New()
	for i := range 5 {
		write(t, d, at(0, i), "abcd")
	}
	if e := d.Crash(room[1:4]); e != api.OK {
		t.Fatal(e)
	}
	if !slices.Equal(room, was) {
		t.Errorf("the picks are %v, not %v", room, was)
	}
	// The spare room behind the three counts for nothing.
	want := view(d)
	for i := range room {
		room[i] = 1
	}
	if g := view(d); g != want {
		t.Error("picks are kept:", g)
	}
	if l := d.Blocks(); !slices.Equal(l, []api.Block{at(0, 0), at(0, 2)}) {
		t.Error(l)
	}
	if e := d.Crash(room[:2]); e != api.ErrDown || !slices.Equal(room, []int{1, 1, 1, 1, 1, 1}) {
		t.Error(e, room)
	}
}

// A crash takes what is under way and all answers; the tickets go on behind it.
func TestWhatACrashTakes(t *testing.T) {
	d := device.New()
	put(t, d, at(0, 0), "kept")
	do(t, d, write(t, d, at(0, 1), "done"))
	do(t, d, read(t, d, at(0, 0)))
	do(t, d, read(t, d, at(0, 63)))
	write(t, d, at(0, 2), "under way")
	read(t, d, at(0, 0))
	crash(t, d)
	if d.On() {
		t.Error("it is on")
	}
	inFlight(t, d)
	start(t, d)
	if !d.On() {
		t.Error("it is off")
	}
	inFlight(t, d)
	for n := range 9 {
		noDo(t, d, api.ErrNone, n)
		noTake(t, d, api.ErrNone, n)
	}
	has(t, d, at(0, 0), "kept")
	has(t, d, at(0, 1), "done")
	hasnt(t, d, at(0, 2))
	if n := read(t, d, at(0, 1)); n != 7 {
		t.Fatalf("the ticket behind the crash is %d, not 7", n)
	}
	for range 3 {
		crash(t, d)
		start(t, d)
	}
	r := read(t, d, at(0, 1))
	if r != 8 {
		t.Fatalf("the ticket behind more of them is %d, not 8", r)
	}
	do(t, d, r)
	took(t, d, r, "done", api.OK)
}

func TestAllCallsWhileItIsOff(t *testing.T) {
	d := device.New()
	put(t, d, at(1, 1), "abc")
	put(t, d, at(0, 5), "")
	write(t, d, at(2, 0), "xyz")
	crash(t, d, 4)
	for range 2 {
		noWrite(t, d, api.ErrDown, at(1, 1), "x")
		noRead(t, d, api.ErrDown, at(1, 1))
		for n := range 5 {
			noDo(t, d, api.ErrDown, n)
			noTake(t, d, api.ErrDown, n)
		}
		refused(t, d, api.ErrDown, "Crash", func() (int, api.Errno) { return 0, d.Crash([]int{1, 1}) })
		refused(t, d, api.ErrDown, "Crash", func() (int, api.Errno) { return 0, d.Crash(nil) })
		inFlight(t, d)
		if d.On() {
			t.Error("it is on")
		}
		has(t, d, at(1, 1), "abc")
		has(t, d, at(0, 5), "")
		has(t, d, at(2, 0), "xy")
		hasnt(t, d, at(0, 0))
		if l := d.Blocks(); !slices.Equal(l, []api.Block{at(0, 5), at(1, 1), at(2, 0)}) {
			t.Error(l)
		}
	}
	start(t, d)
	if n := read(t, d, at(1, 1)); n != 4 {
		t.Errorf("what was refused used up tickets: the next one is %d", n)
	}
}

// A Start of what is on is refused, and takes nothing.
func TestStartOfWhatIsOn(t *testing.T) {
	d := device.New()
	put(t, d, at(0, 0), "a")
	r := read(t, d, at(0, 0))
	q := read(t, d, at(0, 0))
	do(t, d, r)
	refused(t, d, api.ErrBusy, "Start", func() (int, api.Errno) { return 0, d.Start() })
	inFlight(t, d, q)
	took(t, d, r, "a", api.OK)
	do(t, d, q)
	took(t, d, q, "a", api.OK)
	crash(t, d)
	start(t, d)
	refused(t, d, api.ErrBusy, "Start", func() (int, api.Errno) { return 0, d.Start() })
}

// Blocks tells by area, then by number, in whichever order they came.
func TestBlocksInOrder(t *testing.T) {
	d := device.New()
	var want []api.Block
	for _, i := range rand.New(rand.NewSource(3)).Perm(areas * numbers) {
		b := at(i/numbers, i%numbers)
		put(t, d, b, "x")
		want = append(want, b)
		slices.SortFunc(want, func(a, b api.Block) int { return a.Area*1000 + a.No - b.Area*1000 - b.No })
		if l := d.Blocks(); !slices.Equal(l, want) {
			t.Fatalf("Blocks is %v, not %v", l, want)
		}
		put(t, d, b, "y") // a block comes once
	}
	if l := d.Blocks(); len(l) != 192 || l[0] != at(0, 0) || l[63] != at(0, 63) || l[64] != at(1, 0) || l[191] != at(2, 63) {
		t.Error(l)
	}
}

func TestBlocksAreTheCallersOwn(t *testing.T) {
	d := device.New()
	all := []api.Block{at(0, 1), at(0, 2), at(1, 1), at(2, 0)}
	for _, b := range all {
		put(t, d, b, "x")
	}
	l, k := d.Blocks(), d.Blocks()
	for i := range l {
		l[i] = at(7, 7)
	}
	l = append(l[:1], at(8, 8))
	if !slices.Equal(k, all) || !slices.Equal(d.Blocks(), all) {
		t.Error("answers share memory:", k, l, d.Blocks())
	}
	hasnt(t, d, at(7, 7))
	put(t, d, at(0, 0), "x")
	if !slices.Equal(k, all) {
		t.Error("what was told has changed:", k)
	}
}

// What was asked, or read, and isn't done makes no block.
func TestPeekTellsWhatIsDone(t *testing.T) {
	d := device.New()
	b := at(0, 0)
	w := write(t, d, b, "x")
	do(t, d, read(t, d, at(0, 1)))
	hasnt(t, d, b)
	hasnt(t, d, at(0, 1))
	if l := d.Blocks(); len(l) != 0 {
		t.Error(l)
	}
	do(t, d, w)
	for range 3 {
		has(t, d, b, "x")
	}
	for _, p := range wrongPlaces {
		hasnt(t, d, p)
	}
}

// P11.4

// What was done stays behind many crashes, with writes of all other blocks torn, and with its own ones picked off.
func TestWhatIsDoneStays(t *testing.T) {
	d := device.New()
	b := at(1, 30)
	put(t, d, b, "here")
	for i := range 60 {
		for j := range 10 {
			write(t, d, at(j%3, j*3), fmt.Sprint(i, j)) // never number 30
		}
		write(t, d, b, "never")
		crash(t, d, i, i+1, 1, 3, 2, math.MaxInt, i, 1, 1, 4, -i)
		has(t, d, b, "here")
		start(t, d)
		has(t, d, b, "here")
	}
	r := read(t, d, b)
	do(t, d, r)
	took(t, d, r, "here", api.OK)
	put(t, d, b, "there")
	has(t, d, b, "there")
}

// Runs of calls of all kinds, right ones and wrong ones, held against the model.
func TestRunsAgainstTheModel(t *testing.T) {
	for seed := range int64(150) {
		src := rand.New(rand.NewSource(seed))
		d, m := device.New(), &model{}
		places := 2 + src.Intn(40) // few, so that writes meet, or many, so that all room is used
		lazy := 1 + src.Intn(4)
		for range 300 {
			step(t, src, d, m, places, lazy)
			if g, want := view(d), m.view(); g != want {
				t.Fatalf("seed %d: %s, not %s", seed, g, want)
			}
		}
		if m.off {
			start(t, d)
			m.start()
		}
		for n := -1; n < len(m.all)+3; n++ {
			s, e := m.take(n)
			took(t, d, n, s, e)
		}
	}
}

func somePlace(src *rand.Rand, places int) api.Block {
	if src.Intn(30) == 0 {
		return wrongPlaces[src.Intn(len(wrongPlaces))]
	}
	i := src.Intn(places)
	return at(i%3, 63-i/3)
}

func somePicks(src *rand.Rand) []int {
	picks := make([]int, src.Intn(8))
	for i := range picks {
		picks[i] = src.Intn(16) - 2
		if src.Intn(20) == 0 {
			picks[i] = math.MaxInt - src.Intn(9)
		}
	}
	return picks
}

// step does one call, chosen by lot, to both.
func step(t *testing.T, src *rand.Rand, d *device.Device, m *model, places, lazy int) {
	t.Helper()
	ticket := src.Intn(len(m.all)+3) - 1
	if l := m.flight(); len(l) > 0 && src.Intn(2) == 0 {
		ticket = l[src.Intn(len(l))]
	}
	switch k := src.Intn(9 + 3*lazy); {
	case k == 0 && src.Intn(3) == 0:
		picks := somePicks(src)
		if g, want := d.Crash(picks), m.crash(picks); g != want {
			t.Fatalf("Crash tells %d, not %d", g, want)
		}
	case k == 1 || m.off && src.Intn(3) == 0:
		if g, want := d.Start(), m.start(); g != want {
			t.Fatalf("Start tells %d, not %d", g, want)
		}
	case k <= 4:
		if g, want := d.Do(ticket), m.do(ticket); g != want {
			t.Fatalf("Do(%d) tells %d, not %d", ticket, g, want)
		}
	case k <= 8:
		s, e := m.take(ticket)
		took(t, d, ticket, s, e)
	case k%3 != 0:
		b, s := somePlace(src, places), bytesOf(src.Intn(9))
		if src.Intn(200) == 0 {
			s = bytesOf(mostBytes + 1)
		}
		g, ge := d.Write(b, s)
		if want, e := m.write(b, s); g != want || ge != e {
			t.Fatalf("Write(%v) of %d bytes is %d, %d, not %d, %d", b, len(s), g, ge, want, e)
		}
	default:
		b := somePlace(src, places)
		g, ge := d.Read(b)
		if want, e := m.read(b); g != want || ge != e {
			t.Fatalf("Read(%v) is %d, %d, not %d, %d", b, g, ge, want, e)
		}
	}
}

// The same calls tell the same: nothing hangs on how a map is gone through.
func TestTheSameCallsTellTheSame(t *testing.T) {
	run := func() string {
		var b strings.Builder
		d := device.New()
		for i := range 90 {
			d.Write(at(i%3, (i*29)%numbers), fmt.Sprint(i))
			d.Read(at(i%3, i%numbers))
			d.Do(i * 7 % 50)
			s, e := d.Take(i * 5 % 50)
			fmt.Fprint(&b, s, e, d.Flight(), d.Blocks())
			if i%30 == 29 {
				d.Crash([]int{1, 3, 1, 2, 3, 1, 1, 3, 0, 1, 3, 1, 3})
				fmt.Fprint(&b, view(d))
				d.Start()
			}
		}
		return b.String()
	}
	want := run()
	for range 20 {
		if g := run(); g != want {
			t.Fatal("two runs of the same calls part")
		}
	}
}

func TestNilDevice(t *testing.T) {
	var d *device.Device
	long := bytesOf(mostBytes + 1)
	for _, b := range append([]api.Block{at(0, 0)}, wrongPlaces...) {
		for _, s := range []string{"", "x", long} {
			if n, e := d.Write(b, s); n != 0 || e != api.ErrNil {
				t.Error("Write", n, e)
			}
		}
		if n, e := d.Read(b); n != 0 || e != api.ErrNil {
			t.Error("Read", n, e)
		}
		if s, ok := d.Peek(b); s != "" || ok {
			t.Error("Peek", s, ok)
		}
	}
	for n := -1; n < 3; n++ {
		if e := d.Do(n); e != api.ErrNil {
			t.Error("Do", e)
		}
		if s, e := d.Take(n); s != "" || e != api.ErrNil {
			t.Error("Take", s, e)
		}
	}
	if l := d.Flight(); len(l) != 0 {
		t.Error("Flight", l)
	}
	if e := d.Crash([]int{1}); e != api.ErrNil {
		t.Error("Crash", e)
	}
	if e := d.Crash(nil); e != api.ErrNil {
		t.Error("Crash", e)
	}
	if e := d.Start(); e != api.ErrNil {
		t.Error("Start", e)
	}
	if d.On() {
		t.Error("On")
	}
	if l := d.Blocks(); len(l) != 0 {
		t.Error("Blocks", l)
	}
}
