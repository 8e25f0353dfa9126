package inplace_test

import (
	"runtime"
	"slices"
	"strings"
	"sync"
	"sync/atomic"
	"testing"

	"haycroft/api"
	"haycroft/inplace"
	"haycroft/pages"
)

// P18.3, where many move at once.

const workers = 8

// atOnce has many do the same, all of them let go together.
func atOnce(work func(who int)) {
	var ready, all sync.WaitGroup
	ready.Add(1)
	for who := range workers {
		all.Go(func() {
			ready.Wait()
			work(who)
		})
	}
	ready.Done()
	all.Wait()
}

// through moves one to its end, and tells whether all its moves were right.
func through(move func() (int, api.Errno)) bool {
	for {
		switch v, e := move(); {
		case e != ok:
			return false
		case v == done:
			return true
		case v == busy:
			runtime.Gosched()
		}
	}
}

// oneRecord: a page of 512 words, in which one record stands at the address 1.
func oneRecord(t *testing.T, key int, value string) *pages.Buffer {
	t.Helper()
	b := news(t, mostBits)
	if e := b.Open(0); e != ok {
		t.Fatal(e)
	}
	if e := b.Fill(1, laid(key, value)); e != ok {
		t.Fatal(e)
	}
	return b
}

// noneFailed: of no one a call told an error.
func noneFailed(t *testing.T, wrong []int) {
	t.Helper()
	if slices.Max(wrong) > 0 {
		t.Fatal(wrong)
	}
}

// Many add at once: each number is added once, and counted as one writing.
func TestManyAdd(t *testing.T) {
	const each = 1000
	b := oneRecord(t, 1, textOf([]uint64{allOnes - 5}, 8))
	wrong := make([]int, workers)
	atOnce(func(who int) {
		for i := range each {
			w, e := inplace.NewAdder(b, 1, 1, uint64(who*each+i+1))
			if e != ok || !through(w.Move) {
				wrong[who]++
			}
		}
	})
	noneFailed(t, wrong)
	const n = workers * each
	if w, _ := b.Load(5); w != n*(n+1)/2-6 {
		t.Error(w)
	}
	if w, _ := b.Load(2); w != n {
		t.Error(w)
	}
}

// Many write and add at once: between its first move and its last one each is alone.
func TestManyHold(t *testing.T) {
	const each = 1000
	b := oneRecord(t, 1, "12345678")
	var held atomic.Int64
	wrong := make([]int, workers)
	atOnce(func(who int) {
		for i := range each {
			w, e := inplace.NewWriter(b, 1, 1, "abcdefgh")
			if i%2 == 1 {
				w, e = inplace.NewAdder(b, 1, 1, 1)
			}
			if e != ok {
				wrong[who]++
			}
			for v, _ := w.Move(); v == busy; v, _ = w.Move() {
				if w.Holds() {
					wrong[who]++
				}
				runtime.Gosched()
			}
			if !w.Holds() || held.Add(1) != 1 {
				wrong[who]++
			}
			w.Move()
			runtime.Gosched()
			if !w.Holds() || held.Add(-1) != 0 {
				wrong[who]++
			}
			if !through(w.Move) {
				wrong[who]++
			}
		}
	})
	noneFailed(t, wrong)
	if w, _ := b.Load(2); w != workers*each {
		t.Error(w)
	}
}

// One writes ever greater numbers, in all words of a long value, while others read: each number that is read stands in all words, and was there between the beginning of its reading and its end.
func TestManyReadWhileOneWrites(t *testing.T) {
	const each = 3000
	full := func(n uint64) string { return strings.Repeat(textOf([]uint64{n}, 8), mostValue/8) }
	b := oneRecord(t, mostKey, full(0))
	var begun, ended atomic.Uint64
	wrong := make([]int, workers)
	atOnce(func(who int) {
		if who == 0 {
			for n := uint64(1); n <= each; n++ {
				w, e := inplace.NewWriter(b, 1, mostKey, full(n))
				begun.Store(n)
				if e != ok || !through(w.Move) {
					wrong[who]++
				}
				ended.Store(n)
				runtime.Gosched()
			}
			return
		}
		for was := uint64(0); was < each; {
			r, e := inplace.NewReader(b, 1, mostKey, mostValue)
			least := ended.Load()
			right := e == ok && through(r.Move)
			most := begun.Load()
			n := wordsOf(r.Value()[:8])[0]
			if !right || n < least || n > most || n < was || r.Value() != full(n) {
				wrong[who]++
			}
			was = n
			runtime.Gosched()
		}
	})
	noneFailed(t, wrong)
}

// Many write values of their own while many read: what is read is one of them, as a whole; and so is what is left.
func TestManyReadWhileManyWrite(t *testing.T) {
	const each = 500
	letters := func(who int) string { return strings.Repeat(string(rune('a'+who)), 100) }
	b := oneRecord(t, 10, letters(0))
	wrong := make([]int, workers)
	atOnce(func(who int) {
		for range each {
			if who%2 == 0 {
				w, e := inplace.NewWriter(b, 1, 10, letters(who))
				if e != ok || !through(w.Move) {
					wrong[who]++
				}
				continue
			}
			r, e := inplace.NewReader(b, 1, 10, 100)
			if e != ok || !through(r.Move) || r.Value() != letters(int(r.Value()[0]-'a')) {
				wrong[who]++
			}
		}
	})
	noneFailed(t, wrong)
	r, _ := inplace.NewReader(b, 1, 10, 100)
	if !through(r.Move) || r.Value() != letters(int(r.Value()[0]-'a')) {
		t.Error(r.Value())
	}
}

// Others raise a lock's count all the while, without ever holding it: a writer that is beaten between its reading and its try is busy, and begins anew; none of the raisings is lost.
func TestBeatenBetweenReadingAndTry(t *testing.T) {
	const each = 2000
	b := oneRecord(t, 1, "12345678")
	raised := make([]uint64, workers)
	wrong := make([]int, workers)
	atOnce(func(who int) {
		if who > 1 {
			for range each {
				n, _ := b.Load(2)
				if n >= lockBit {
					continue
				}
				if won, _ := b.CAS(2, n, n+1); won {
					raised[who]++
				}
			}
			return
		}
		for range each {
			w, e := inplace.NewAdder(b, 1, 1, 1)
			v := busy
			for v == busy && e == ok {
				if v, e = w.Move(); v != busy {
					break
				}
				if w.Holds() {
					wrong[who]++
				}
				runtime.Gosched()
			}
			if n, _ := b.Load(2); v != more || n < lockBit || !through(w.Move) {
				wrong[who]++
			}
			raised[who]++
		}
	})
	noneFailed(t, wrong)
	all := uint64(0)
	for _, n := range raised {
		all += n
	}
	if n, _ := b.Load(2); n != all {
		t.Error(n, all)
	}
	if n, _ := b.Load(5); n != wordsOf("12345678")[0]+2*each {
		t.Errorf("%x", n)
	}
}

// One who is beaten between his reading and his try is told so, at once. Where those who beat each other all the while are beaten often, he is too; where they aren't, since there is one processor alone, nothing can be said.
func TestBeatenIsTold(t *testing.T) {
	b := oneRecord(t, 1, "12345678")
	var end atomic.Bool
	var beaten atomic.Int64
	wrong := make([]int, workers)
	told := false
	atOnce(func(who int) {
		if who > 0 {
			for i := 0; !end.Load(); i++ {
				if i%100 == 0 {
					runtime.Gosched()
				}
				n, _ := b.Load(2)
				if n >= lockBit {
					continue
				}
				if won, _ := b.CAS(2, n, (n+1)%counts); !won {
					beaten.Add(1)
				}
			}
			return
		}
		for i := 0; !told && i < 400000 && (i < 100000 || beaten.Load() < 50000); i++ {
			w, _ := inplace.NewWriter(b, 1, 1, "")
			v, e := w.Move()
			told = v == busy
			if e != ok || !told && !through(w.Move) {
				wrong[who]++
			}
			if i%100 == 0 {
				runtime.Gosched()
			}
		}
		end.Store(true)
	})
	noneFailed(t, wrong)
	if n := beaten.Load(); !told && n >= 50000 {
		t.Error(n)
	}
}

// Many at many records of one page: nobody is in another one's way.
func TestManyAtOtherRecords(t *testing.T) {
	b := news(t, mostBits)
	b.Open(0)
	wrong := make([]int, workers)
	atOnce(func(who int) {
		a := uint64(who*20 + 1)
		if b.Fill(a, laid(5, "................")) != ok {
			wrong[who]++
		}
		for i := range 500 {
			value := strings.Repeat(string(rune('a'+(who+i)%26)), 16)
			w, _ := inplace.NewWriter(b, a, 5, value)
			r, _ := inplace.NewReader(b, a, 5, 16)
			for range 4 {
				if v, e := w.Move(); v == busy || e != ok {
					wrong[who]++
				}
			}
			if !through(r.Move) || r.Value() != value {
				wrong[who]++
			}
		}
	})
	noneFailed(t, wrong)
}
