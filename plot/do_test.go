package plot

import (
	"errors"
	"math"
	"slices"
	"testing"

	"sexton/api"
	"sexton/woe"
)

// full is a word with something in each of its parts.
var full = api.Word{Slot: 7, Gen: 3, Tag: 5, Num: -9, Mark: true}

// P3.2: each cell of the board and of a slot is its own.
func TestStoreAndLoad(t *testing.T) {
	p := lay(t, 2, 12)
	p.Do(api.Access{Kind: api.New, New: api.Word{Num: 4}})
	p.Do(api.Access{Kind: api.New, New: api.Word{Num: 5}})
	want := map[api.Addr]api.Word{}
	for slot := range 3 {
		for f := range 12 {
			at := api.Addr{Slot: slot, Gen: min(slot, 1), Field: f}
			if slot > 0 && f >= api.Fields {
				continue
			}
			want[at] = api.Word{Slot: slot, Gen: f, Tag: slot * f, Num: slot + 100*f, Mark: f%2 == 0}
			must(t, p, api.Access{Kind: api.Store, At: at, Old: full, New: want[at]}, api.Reply{Ok: true})
		}
	}
	for at, w := range want {
		must(t, p, api.Access{Kind: api.Load, At: at, Old: full, New: full}, api.Reply{Word: w, Ok: true})
		must(t, p, api.Access{Kind: api.Load, At: at}, api.Reply{Word: w, Ok: true})
	}
	if p.Fault() != nil || p.Steps() != 2+3*len(want) {
		t.Error(p.Fault(), p.Steps())
	}
}

// P3.2: words that can't be are kept as they are.
func TestAnyWordIsStored(t *testing.T) {
	p := lay(t, 0, 1)
	for _, w := range []api.Word{{Slot: -1}, {Gen: 4}, {Slot: math.MaxInt, Gen: math.MinInt, Tag: math.MinInt, Num: math.MaxInt, Mark: true}} {
		must(t, p, api.Access{Kind: api.Store, New: w}, api.Reply{Ok: true})
		must(t, p, api.Access{Kind: api.Load}, api.Reply{Word: w, Ok: true})
		must(t, p, api.Access{Kind: api.Swap, Old: w, New: full}, api.Reply{Word: w, Ok: true})
	}
}

// P3.2: a swap looks at all but the generation.
func TestSwap(t *testing.T) {
	p := lay(t, 1, 1)
	p.Do(api.Access{Kind: api.New})
	for _, at := range []api.Addr{{}, {Slot: 1, Gen: 1, Field: 4}} {
		must(t, p, api.Access{Kind: api.Store, At: at, New: full}, api.Reply{Ok: true})
		other := api.Word{Slot: 1, Gen: 1}
		for _, change := range []func(w *api.Word){
			func(w *api.Word) { w.Slot++ },
			func(w *api.Word) { w.Tag-- },
			func(w *api.Word) { w.Num = 9 },
			func(w *api.Word) { w.Mark = false },
			func(w *api.Word) { *w = api.Word{} },
		} {
			old := full
			change(&old)
			must(t, p, api.Access{Kind: api.Swap, At: at, Old: old, New: other}, api.Reply{Word: full})
			must(t, p, api.Access{Kind: api.Load, At: at}, api.Reply{Word: full, Ok: true})
		}
		old := full
		old.Gen = 99
		must(t, p, api.Access{Kind: api.Swap, At: at, Old: old, New: other}, api.Reply{Word: full, Ok: true})
		must(t, p, api.Access{Kind: api.Load, At: at}, api.Reply{Word: other, Ok: true})
		must(t, p, api.Access{Kind: api.Swap, At: at, Old: full, New: full}, api.Reply{Word: other})
	}
	if p.Fault() != nil {
		t.Error(p.Fault())
	}
}

// P3.2, P3.4: a slot that is given once more has nothing of what it had.
func TestGivenIsNew(t *testing.T) {
	p := lay(t, 1, 1)
	for gen := 1; gen <= 3; gen++ {
		must(t, p, api.Access{Kind: api.New, At: api.Addr{Slot: 5}, Old: full, New: api.Word{Slot: 8, Gen: 8, Tag: 8, Num: -gen, Mark: true}}, api.Reply{Word: api.Word{Slot: 1, Gen: gen}, Ok: true})
		for f := range api.Fields {
			at := api.Addr{Slot: 1, Gen: gen, Field: f}
			want := api.Word{}
			if f == api.Birth {
				want.Num = -gen
			}
			must(t, p, api.Access{Kind: api.Load, At: at}, api.Reply{Word: want, Ok: true})
			must(t, p, api.Access{Kind: api.Store, At: at, New: full}, api.Reply{Ok: true})
		}
		// Of what is freed its slot and its generation are asked for alone.
		must(t, p, api.Access{Kind: api.Free, Old: api.Word{Slot: 1, Gen: gen, Tag: 4, Num: 4, Mark: true}, New: full}, api.Reply{Ok: true})
	}
	if p.Fault() != nil {
		t.Error(p.Fault())
	}
}

// P3.2: the examples of the chapter.
func TestExample(t *testing.T) {
	p := lay(t, 2, 3)
	must(t, p, api.Access{Kind: api.New}, api.Reply{Word: api.Word{Slot: 1, Gen: 1}, Ok: true})
	must(t, p, api.Access{Kind: api.New}, api.Reply{Word: api.Word{Slot: 2, Gen: 1}, Ok: true})
	must(t, p, api.Access{Kind: api.Free, Old: api.Word{Slot: 1, Gen: 1}}, api.Reply{Ok: true})
	must(t, p, api.Access{Kind: api.New}, api.Reply{Word: api.Word{Slot: 1, Gen: 2}, Ok: true})
	must(t, p, api.Access{Kind: api.Load, At: api.Addr{Slot: 1, Gen: 1}}, api.Reply{Word: api.Word{Num: -1}})
	if err := p.Fault(); !errors.Is(err, api.ErrStale) || !slices.Equal(woe.Path(err), []int{5}) {
		t.Error(err, woe.Path(err))
	}
}

// P3.2, P3.3: each kind of fault, in a plot where the slot 1 is in its generation 2, the slot 2 is free again, and 3 was never given.
func TestFaults(t *testing.T) {
	for _, c := range []struct {
		slot, gen   int
		touch, free error
	}{
		{1, 2, nil, nil},
		{1, 1, api.ErrStale, api.ErrStale},
		{1, 0, api.ErrStale, api.ErrStale},
		{1, 3, api.ErrStale, api.ErrStale},
		{1, -2, api.ErrStale, api.ErrStale},
		{1, math.MaxInt, api.ErrStale, api.ErrStale},
		{2, 1, api.ErrFreed, api.ErrTwice},
		{2, 0, api.ErrFreed, api.ErrTwice},
		{2, 2, api.ErrFreed, api.ErrTwice},
		{2, math.MinInt, api.ErrFreed, api.ErrTwice},
		{3, 0, api.ErrFreed, api.ErrTwice},
		{3, 1, api.ErrFreed, api.ErrTwice},
	} {
		for kind := api.Load; kind <= api.Free; kind++ {
			if kind == api.New {
				continue
			}
			a := api.Access{Kind: kind, At: api.Addr{Slot: c.slot, Gen: c.gen, Field: 4}}
			want, word := c.touch, api.Word{}
			if kind == api.Load || kind == api.Swap {
				word.Num = -1
			}
			if kind == api.Free {
				// Where the access is has no meaning of a Free.
				a.At = api.Addr{Slot: 1, Gen: 2}
				a.Old = api.Word{Slot: c.slot, Gen: c.gen}
				want = c.free
			}
			p := threeSlots(t)
			before := tell(p, 2)
			if want == nil {
				must(t, p, a, api.Reply{Ok: true})
				if p.Fault() != nil || p.Steps() != before.steps+1 {
					t.Errorf("%+v: %v", a, p.Fault())
				}
				continue
			}
			must(t, p, a, api.Reply{Word: word})
			if err := p.Fault(); !errors.Is(err, want) || woe.Code(err) != woe.Code(want) {
				t.Errorf("%+v: %v, want %v", a, err, want)
			}
			before.steps++
			before.code, before.path = woe.Code(want), []int{before.steps}
			if after := tell(p, 2); !alike(before, after) {
				t.Errorf("%+v: %+v, want %+v", a, after, before)
			}
		}
	}
}

// threeSlots answers a plot as TestFaults says.
func threeSlots(t *testing.T) *Plot {
	t.Helper()
	p := lay(t, 3, 2)
	give := api.Access{Kind: api.New}
	one, two := api.Word{Slot: 1, Gen: 1}, api.Word{Slot: 2, Gen: 1}
	for _, a := range []api.Access{give, give, {Kind: api.Free, Old: two}, {Kind: api.Free, Old: one}, give} {
		if r, err := p.Do(a); !r.Ok || err != nil {
			t.Fatal(a, r, err)
		}
	}
	return p
}

// P3.3: the first fault is told ever after, at its step, and wrapped once.
func TestFirstFault(t *testing.T) {
	p := threeSlots(t)
	stale := api.Access{Kind: api.Store, At: api.Addr{Slot: 1, Gen: 1}, New: full}
	twice := api.Access{Kind: api.Free, Old: api.Word{Slot: 2, Gen: 1}}
	freed := api.Access{Kind: api.Load, At: api.Addr{Slot: 2, Gen: 1}}
	p.Do(api.Access{Kind: 99})
	if p.Fault() != nil {
		t.Error(p.Fault())
	}
	for i, a := range []api.Access{stale, twice, freed, stale} {
		if r, err := p.Do(a); r.Ok || err != nil {
			t.Error(r, err)
		}
		err := p.Fault()
		n, ok := woe.Place(err)
		if !errors.Is(err, api.ErrStale) || n != 6 || !ok || !slices.Equal(woe.Path(err), []int{6}) {
			t.Errorf("behind %d: %v, %d", i, err, n)
		}
	}
	if p.Steps() != 9 {
		t.Error(p.Steps())
	}
}

// P3.3, rule 3: who changes the fault that he was told doesn't change the plot's.
func TestFaultIsNewMemory(t *testing.T) {
	p := threeSlots(t)
	p.Do(api.Access{Kind: api.Load, At: api.Addr{Slot: 2}})
	var w *woe.Woe
	if !errors.As(p.Fault(), &w) {
		t.Fatal(p.Fault())
	}
	w.Place, w.Err = 40, api.ErrLong
	if err := p.Fault(); woe.Code(err) != 6 || !slices.Equal(woe.Path(err), []int{6}) {
		t.Error(woe.Code(err), woe.Path(err))
	}
}

// P1, P3.2, rule 7: what can't be is no step, and changes nothing.
func TestWhatCannotBe(t *testing.T) {
	p := threeSlots(t)
	before := tell(p, 2)
	far := append([]int{3, 4, 9, 10}, farInts...)
	for _, kind := range append(slices.Clone(far), 5, 6) {
		for _, slot := range far {
			for _, field := range far {
				for _, gen := range []int{math.MinInt, -1, 1, 2} {
					a := api.Access{Kind: kind, At: api.Addr{Slot: slot, Gen: gen, Field: field}, Old: full, New: full}
					a.Old.Slot = slot
					if canBe(a) {
						continue
					}
					if r, err := p.Do(a); r != (api.Reply{}) || !errors.Is(err, api.ErrArg) || woe.Code(err) != 1 {
						t.Errorf("%+v: %+v, %v", a, r, err)
					}
				}
			}
		}
	}
	if after := tell(p, 2); !alike(before, after) {
		t.Errorf("%+v, want %+v", after, before)
	}
}

// canBe tells whether an access can be, of three slots and a board of two cells.
func canBe(a api.Access) bool {
	at := a.At
	touches := a.Kind == 1 || a.Kind == 2 || a.Kind == 3
	onBoard := at.Slot == 0 && at.Gen == 0 && at.Field >= 0 && at.Field <= 1
	inSlot := at.Slot >= 1 && at.Slot <= 3 && at.Field >= 0 && at.Field <= 9
	return touches && (onBoard || inSlot) || a.Kind == 4 || a.Kind == 5 && a.Old.Slot >= 1 && a.Old.Slot <= 3
}

// P1, P3.2: a heap without slots, a board without cells.
func TestNothingThere(t *testing.T) {
	p := lay(t, 0, 0)
	must(t, p, api.Access{Kind: api.New}, api.Reply{})
	for _, a := range []api.Access{{Kind: api.Load}, {Kind: api.Load, At: api.Addr{Slot: 1}}, {Kind: api.Store}, {Kind: api.Swap}, {Kind: api.Free}, {Kind: api.Free, Old: api.Word{Slot: 1}}} {
		if r, err := p.Do(a); r != (api.Reply{}) || !errors.Is(err, api.ErrArg) {
			t.Errorf("%+v: %+v, %v", a, r, err)
		}
	}
	if p.Steps() != 1 || p.Made() != 0 || p.Fault() != nil {
		t.Error(p.Steps(), p.Made(), p.Fault())
	}
}
