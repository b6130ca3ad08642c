package cortege

import (
	"errors"
	"math"
	"slices"
	"testing"

	"sexton/api"
	"sexton/board"
	"sexton/plot"
	"sexton/woe"
)

// heap answers one of so many slots, with the whole board.
func heap(t *testing.T, slots int) *plot.Plot {
	t.Helper()
	p, err := plot.New(slots, board.Cells())
	if err != nil {
		t.Fatal(err)
	}
	return p
}

func do(t *testing.T, p *plot.Plot, a api.Access) api.Reply {
	t.Helper()
	x, err := p.Do(a)
	if err != nil || p.Fault() != nil {
		t.Fatalf("%+v: %v, %v", a, err, p.Fault())
	}
	return x
}

func put(t *testing.T, p *plot.Plot, at api.Addr, w api.Word) {
	t.Helper()
	do(t, p, api.Access{Kind: api.Store, At: at, New: w})
}

// lineUp lays slots with these values one behind the other by hand, the first one as the head's; it answers them. The tail stays.
func lineUp(t *testing.T, p *plot.Plot, vals ...int) []api.Word {
	t.Helper()
	var refs []api.Word
	at := headAt
	for _, val := range vals {
		w := do(t, p, api.Access{Kind: api.New}).Word
		put(t, p, cell(w, 1), api.Word{Num: val})
		put(t, p, at, w)
		refs, at = append(refs, w), cell(w, 2)
	}
	return refs
}

// checkItems looks at what a queue has, and whether that changes nothing.
func checkItems(t *testing.T, p *plot.Plot, vals []int, refs []api.Word) {
	t.Helper()
	steps, live, made := p.Steps(), p.Live(), p.Made()
	for range 2 {
		gotVals, gotRefs, err := Items(p)
		if !slices.Equal(gotVals, vals) || !slices.Equal(gotRefs, refs) || err != nil {
			t.Fatalf("%v, %v, %v; not %v, %v", gotVals, gotRefs, err, vals, refs)
		}
		// What is told is new memory, so nothing hangs on it.
		clear(gotVals[:cap(gotVals)])
		clear(gotRefs[:cap(gotRefs)])
	}
	if p.Steps() != steps || p.Live() != live || p.Made() != made || p.Fault() != nil {
		t.Errorf("%d steps, %d live, %d made, %v", p.Steps(), p.Live(), p.Made(), p.Fault())
	}
}

func checkLeft(t *testing.T, p *plot.Plot) {
	t.Helper()
	steps := p.Steps()
	vals, refs, err := Items(p)
	if len(vals) != 0 || len(refs) != 0 || !errors.Is(err, api.ErrLeft) || woe.Code(err) != 9 {
		t.Errorf("%v, %v, %v", vals, refs, err)
	}
	if p.Steps() != steps || p.Fault() != nil {
		t.Errorf("%d steps, %v", p.Steps(), p.Fault())
	}
}

// P8.2: the head's slot has no value, whatever it has.
func TestItems(t *testing.T) {
	p := heap(t, 4)
	checkItems(t, p, nil, nil)
	refs := lineUp(t, p, 77)
	checkItems(t, p, nil, refs)
	p = heap(t, 4)
	refs = lineUp(t, p, 77, 5, -3, 1<<30)
	checkItems(t, p, []int{5, -3, 1 << 30}, refs)
	// Tags, marks and numbers of words that lead to slots are nothing to it; nor is what else there is, the tail, too.
	put(t, p, headAt, api.Word{Slot: 2, Gen: 1, Tag: 9, Num: 4, Mark: true})
	put(t, p, cell(refs[1], 2), api.Word{Slot: 4, Gen: 1, Tag: 3, Num: 8, Mark: true})
	put(t, p, cell(refs[3], 1), api.Word{Slot: 3, Gen: 1, Tag: 2, Num: 6, Mark: true})
	for _, tail := range []api.Word{{}, refs[0], refs[3], {Slot: 9, Gen: 1}, {Slot: 1, Gen: 4}} {
		put(t, p, tailAt, tail)
		checkItems(t, p, []int{6}, []api.Word{refs[1], refs[3]})
	}
	// A word without a slot ends it.
	put(t, p, cell(refs[1], 2), api.Word{Gen: 4, Tag: 9, Num: 3, Mark: true})
	checkItems(t, p, nil, []api.Word{refs[1]})
	put(t, p, headAt, api.Word{Gen: 4, Tag: 9, Num: 3, Mark: true})
	checkItems(t, p, nil, nil)
}

// P8.2: a slot that was freed and given again is looked at in its generation, as the head's and behind it.
func TestItemsOfAnotherGeneration(t *testing.T) {
	p := heap(t, 2)
	for gen := 1; gen < 4; gen++ {
		refs := lineUp(t, p, 10*gen, 10*gen+1)
		checkItems(t, p, []int{10*gen + 1}, []api.Word{{Slot: 1, Gen: gen}, {Slot: 2, Gen: gen}})
		for _, wrong := range []int{gen - 1, gen + 1, -1, math.MinInt, math.MaxInt} {
			put(t, p, headAt, api.Word{Slot: 1, Gen: wrong})
			checkLeft(t, p)
			put(t, p, headAt, refs[0])
			put(t, p, cell(refs[0], 2), api.Word{Slot: 2, Gen: wrong})
			checkLeft(t, p)
			put(t, p, cell(refs[0], 2), refs[1])
		}
		do(t, p, api.Access{Kind: api.Free, Old: refs[1]})
		checkLeft(t, p)
		do(t, p, api.Access{Kind: api.Free, Old: refs[0]})
		checkLeft(t, p)
	}
}

// P8.2: of a nil plot, and of one that has no head.
func TestItemsOfNoQueue(t *testing.T) {
	if vals, refs, err := Items(nil); len(vals) != 0 || len(refs) != 0 || !errors.Is(err, api.ErrNil) || woe.Code(err) != 2 {
		t.Errorf("%v, %v, %v", vals, refs, err)
	}
	p, err := plot.New(2, 0)
	if err != nil {
		t.Fatal(err)
	}
	checkLeft(t, p)
	if p, err = plot.New(0, 1); err != nil {
		t.Fatal(err)
	}
	checkItems(t, p, nil, nil)
}

// P8.2: one that can't be looked at, wherever it is; what is ahead of it isn't told.
func TestItemsOfWhatIsNotThere(t *testing.T) {
	for _, slot := range []int{math.MinInt, -1, 4, 5, 6, 1024, 1025, math.MaxInt} {
		for place := range 4 {
			p := heap(t, 5)
			refs := lineUp(t, p, 1, 2, 3)
			at := headAt
			if place > 0 {
				at = cell(refs[place-1], 2)
			}
			for _, gen := range []int{0, 1} {
				put(t, p, at, api.Word{Slot: slot, Gen: gen})
				checkLeft(t, p)
			}
		}
	}
	for n := range 3 {
		p := heap(t, 5)
		refs := lineUp(t, p, 1, 2, 3)
		do(t, p, api.Access{Kind: api.Free, Old: refs[n]})
		checkLeft(t, p)
	}
}

// P8.2: as many slots as there can be, and those that never end.
func TestItemsOfMany(t *testing.T) {
	for _, many := range []int{1, 2, 1023, 1024} {
		p := heap(t, many)
		vals := make([]int, many)
		for i := range vals {
			vals[i] = i
		}
		refs := lineUp(t, p, vals...)
		checkItems(t, p, vals[1:], refs)
		for _, back := range []int{0, many / 2, many - 1} {
			put(t, p, cell(refs[many-1], 2), refs[back])
			checkLeft(t, p)
		}
	}
}
