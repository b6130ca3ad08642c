package rite

import (
	"math/rand/v2"
	"testing"

	"sexton/api"
	"sexton/board"
	"sexton/plot"
)

// crypt is one thread by hazard pointers that gets slots and retires them, on a heap where the others announce what they like.
type crypt struct {
	t    *testing.T
	p    *plot.Plot
	r    *Rite
	most int // of the notes that there ever were
}

func newCrypt(t *testing.T, me, threads, notes int) *crypt {
	t.Helper()
	p, err := plot.New(api.MaxSlots, board.Cells())
	if err != nil {
		t.Fatal(err)
	}
	return &crypt{t: t, p: p, r: open(t, api.Hazard, me, threads, notes)}
}

func (c *crypt) do(a api.Access) api.Reply {
	c.t.Helper()
	x, err := c.p.Do(a)
	if err != nil || c.p.Fault() != nil {
		c.t.Fatalf("%+v: %v, %v", a, err, c.p.Fault())
	}
	return x
}

func (c *crypt) call(call api.Call) api.Reply {
	c.t.Helper()
	begin(c.t, c.r, call)
	for c.r.Busy() {
		c.most = max(c.most, len(c.r.Notes()))
		a, _ := c.r.Next()
		if err := c.r.Took(c.do(a)); err != nil {
			c.t.Fatal(err)
		}
	}
	c.most = max(c.most, len(c.r.Notes()))
	return c.r.Reply()
}

// P6.4: all announcements of all threads keep a slot of their own, for good: the notes are so many at most, and are so many if they may.
func TestFewWhenAllAreStalled(t *testing.T) {
	for threads := 1; threads <= api.MaxThreads; threads++ {
		for _, notes := range []int{1, 2, 8, 9, 10, 53, 54, 55, 64} {
			kept := threads * api.Hazards
			c := newCrypt(t, threads-1, threads, notes)
			var slots []api.Word
			for n := range kept {
				slots = append(slots, c.call(api.Call{Kind: api.CallAlloc}).Word)
				c.do(store(25+n, slots[n]))
			}
			for range 300 {
				slots = append(slots, c.call(api.Call{Kind: api.CallAlloc}).Word)
			}
			for _, w := range slots {
				c.call(api.Call{Kind: api.CallRetire, Old: w})
			}
			// The one that is retired last is noted till the scan is through.
			if want := max(notes, kept+1); c.most != want || c.most > notes+kept {
				t.Errorf("%d threads, %d: %d notes, not %d", threads, notes, c.most, want)
			}
			c.call(api.Call{Kind: api.CallScan})
			if many := len(c.r.Notes()); many != kept || c.r.Freed() != 300 {
				t.Errorf("%d threads, %d: %d notes are left, %d were freed", threads, notes, many, c.r.Freed())
			}
		}
	}
}

// P6.4: the same while the others announce one thing and another.
func TestFewWhateverOthersDo(t *testing.T) {
	for seed := range uint64(40) {
		r := rand.New(rand.NewPCG(seed, 400))
		threads, notes := 1+r.IntN(api.MaxThreads), 1+r.IntN(api.MaxNotes)
		c := newCrypt(t, r.IntN(threads), threads, notes)
		for range 400 {
			w := c.call(api.Call{Kind: api.CallAlloc}).Word
			for range r.IntN(3) {
				c.do(store(25+r.IntN(threads*api.Hazards), w))
			}
			c.call(api.Call{Kind: api.CallRetire, Old: w})
		}
		if c.most > notes+threads*api.Hazards {
			t.Errorf("seed %d, %d threads, %d: %d notes", seed, threads, notes, c.most)
		}
	}
}

// P6.2, P6.4: a scan begins with the note that makes them enough, not ahead of it.
func TestScanFromSoManyNotesOn(t *testing.T) {
	for _, notes := range []int{1, 2, 3, 63, 64} {
		c := newCrypt(t, 0, 1, notes)
		for n := 1; n <= 2*notes; n++ {
			w := c.call(api.Call{Kind: api.CallAlloc}).Word
			before := c.p.Steps()
			c.call(api.Call{Kind: api.CallRetire, Old: w})
			scans, left := n%notes == 0, n%notes
			if (c.p.Steps() > before) != scans || len(c.r.Notes()) != left || c.r.Freed() != n-left {
				t.Errorf("%d: behind %d there are %d notes, %d were freed", notes, n, len(c.r.Notes()), c.r.Freed())
			}
		}
	}
}
