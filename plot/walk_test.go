package plot

import (
	"math/rand/v2"
	"testing"

	"sexton/api"
	"sexton/woe"
)

// ledger is what a plot should be, kept otherwise: a cell has the last word that was written to it since its slot was given.
type ledger struct {
	slots, cells int
	words        map[api.Addr]api.Word
	gens         map[int]int
	row          []int // of free slots, the next one first
	fault        error
	steps, made  int
}

func newLedger(slots, cells int) *ledger {
	l := &ledger{slots: slots, cells: cells, words: map[api.Addr]api.Word{}, gens: map[int]int{}}
	for n := 1; n <= slots; n++ {
		l.row = append(l.row, n)
	}
	return l
}

func (l *ledger) isFree(n int) bool {
	for _, m := range l.row {
		if m == n {
			return true
		}
	}
	return false
}

// do answers what an access that can be is answered.
func (l *ledger) do(a api.Access) api.Reply {
	l.steps++
	if a.Kind == api.New {
		if len(l.row) == 0 {
			return api.Reply{}
		}
		n := l.row[0]
		l.row = l.row[1:]
		l.gens[n]++
		l.made++
		l.words[api.Addr{Slot: n, Gen: l.gens[n], Field: api.Birth}] = api.Word{Num: a.New.Num}
		return api.Reply{Word: api.Word{Slot: n, Gen: l.gens[n]}, Ok: true}
	}
	at, gone := a.At, api.ErrFreed
	if a.Kind == api.Free {
		at, gone = api.Addr{Slot: a.Old.Slot, Gen: a.Old.Gen}, api.ErrTwice
	}
	var err error
	if l.isFree(at.Slot) {
		err = gone
	} else if l.gens[at.Slot] != at.Gen {
		err = api.ErrStale
	}
	had := l.words[at]
	switch {
	case err != nil:
		if l.fault == nil {
			l.fault = woe.At(l.steps, err)
		}
		if a.Kind == api.Load || a.Kind == api.Swap {
			return api.Reply{Word: api.Word{Num: -1}}
		}
		return api.Reply{}
	case a.Kind == api.Free:
		l.row = append([]int{at.Slot}, l.row...)
		return api.Reply{Ok: true}
	case a.Kind == api.Store:
		l.words[at] = a.New
		return api.Reply{Ok: true}
	case a.Kind == api.Load:
		return api.Reply{Word: had, Ok: true}
	}
	same := had.Slot == a.Old.Slot && had.Tag == a.Old.Tag && had.Num == a.Old.Num && had.Mark == a.Old.Mark
	if same {
		l.words[at] = a.New
	}
	return api.Reply{Word: had, Ok: same}
}

// tell is what should be told of the plot.
func (l *ledger) tell() state {
	s := state{cells: map[api.Addr]api.Word{}, steps: l.steps, live: l.slots - len(l.row), made: l.made, code: woe.Code(l.fault), path: woe.Path(l.fault)}
	for f := range l.cells {
		at := api.Addr{Field: f}
		s.cells[at] = l.words[at]
	}
	for n := 1; n <= l.slots; n++ {
		if l.isFree(n) {
			continue
		}
		s.used = append(s.used, api.Word{Slot: n, Gen: l.gens[n]})
		for f := range api.Fields {
			at := api.Addr{Slot: n, Gen: l.gens[n], Field: f}
			s.cells[at] = l.words[at]
		}
	}
	return s
}

// anyAccess draws an access that can be, mostly a right one.
func (l *ledger) anyAccess(r *rand.Rand) api.Access {
	word := func() api.Word {
		return api.Word{Slot: r.IntN(3), Gen: r.IntN(3), Tag: r.IntN(2), Num: r.IntN(2), Mark: r.IntN(2) == 0}
	}
	a := api.Access{Kind: 1 + r.IntN(5), Old: word(), New: word()}
	n := 1 + r.IntN(l.slots)
	gen := l.gens[n]
	if r.IntN(12) == 0 {
		gen += r.IntN(5) - 2
	}
	a.At = api.Addr{Slot: n, Gen: gen, Field: r.IntN(api.Fields)}
	switch {
	case a.Kind == api.Free:
		a.Old.Slot, a.Old.Gen = n, gen
	case a.Kind != api.New && r.IntN(3) == 0:
		a.At = api.Addr{Field: r.IntN(l.cells)}
	}
	if a.Kind == api.Swap && r.IntN(2) == 0 {
		a.Old = l.words[a.At]
		a.Old.Gen = r.IntN(3)
	}
	return a
}

// P3.1 to P3.4: whatever is done, the plot is as the ledger, down to each cell.
func TestAsTheLedger(t *testing.T) {
	for seed := range uint64(60) {
		r := rand.New(rand.NewPCG(seed, 3))
		slots, cells := 1+r.IntN(5), 1+r.IntN(4)
		p, l := lay(t, slots, cells), newLedger(slots, cells)
		given := map[api.Word]bool{}
		for range 400 {
			used := p.Used()
			a := l.anyAccess(r)
			got, err := p.Do(a)
			if want := l.do(a); got != want || err != nil {
				t.Fatalf("seed %d, step %d, %+v: %+v, %v; want %+v", seed, l.steps, a, got, err, want)
			}
			if a.Kind == api.New && got.Ok {
				if given[got.Word] {
					t.Fatalf("seed %d: %+v is given twice", seed, got.Word)
				}
				given[got.Word] = true
				for _, u := range used {
					if u.Slot == got.Word.Slot {
						t.Fatalf("seed %d: %+v is given, but not free", seed, u)
					}
				}
			}
			if told, want := tell(p, cells), l.tell(); !alike(told, want) {
				t.Fatalf("seed %d, step %d, %+v: %+v; want %+v", seed, l.steps, a, told, want)
			}
		}
	}
}

// Rule 4: nothing is shared by two plots.
func TestTwoPlots(t *testing.T) {
	p, q := lay(t, 2, 2), lay(t, 2, 2)
	before := tell(q, 2)
	p.Do(api.Access{Kind: api.New})
	p.Do(api.Access{Kind: api.Store, At: api.Addr{Field: 1}, New: full})
	p.Do(api.Access{Kind: api.Free, Old: api.Word{Slot: 2}})
	if !alike(before, tell(q, 2)) {
		t.Error(tell(q, 2))
	}
}
