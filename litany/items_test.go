package litany

import (
	"errors"
	"math"
	"slices"
	"testing"

	"sexton/api"
	"sexton/board"
	"sexton/plot"
	"sexton/woe"
)

// heap answers one of so many slots, with the whole board.
func heap(t *testing.T, slots int) *plot.Plot {
	t.Helper()
	p, err := plot.New(slots, board.Cells())
	if err != nil {
		t.Fatal(err)
	}
	return p
}

func do(t *testing.T, p *plot.Plot, a api.Access) api.Reply {
	t.Helper()
	x, err := p.Do(a)
	if err != nil || p.Fault() != nil {
		t.Fatalf("%+v: %v, %v", a, err, p.Fault())
	}
	return x
}

func put(t *testing.T, p *plot.Plot, at api.Addr, w api.Word) {
	t.Helper()
	do(t, p, api.Access{Kind: api.Store, At: at, New: w})
}

// listUp lays slots with these keys and values behind each other by hand, from a cell on; it answers them.
func listUp(t *testing.T, p *plot.Plot, at api.Addr, pairs ...api.Pair) []api.Word {
	t.Helper()
	var refs []api.Word
	for _, x := range pairs {
		w := do(t, p, api.Access{Kind: api.New}).Word
		put(t, p, cell(w, 0), api.Word{Num: x.Key})
		put(t, p, cell(w, 1), api.Word{Num: x.Val})
		put(t, p, at, w)
		refs, at = append(refs, w), cell(w, 2)
	}
	put(t, p, at, api.Word{})
	return refs
}

// checkItems looks at what a list has, and whether that changes nothing.
func checkItems(t *testing.T, p *plot.Plot, at api.Addr, pairs []api.Pair, refs []api.Word) {
	t.Helper()
	steps, live, made := p.Steps(), p.Live(), p.Made()
	for range 2 {
		gotPairs, gotRefs, err := Items(p, at)
		if !slices.Equal(gotPairs, pairs) || !slices.Equal(gotRefs, refs) || err != nil {
			t.Fatalf("%v, %v, %v; not %v, %v", gotPairs, gotRefs, err, pairs, refs)
		}
		// What is told is new memory, so nothing hangs on it.
		clear(gotPairs[:cap(gotPairs)])
		clear(gotRefs[:cap(gotRefs)])
	}
	if p.Steps() != steps || p.Live() != live || p.Made() != made || p.Fault() != nil {
		t.Errorf("%d steps, %d live, %d made, %v", p.Steps(), p.Live(), p.Made(), p.Fault())
	}
}

func checkLeft(t *testing.T, p *plot.Plot, at api.Addr) {
	t.Helper()
	steps := p.Steps()
	pairs, refs, err := Items(p, at)
	if len(pairs) != 0 || len(refs) != 0 || !errors.Is(err, api.ErrLeft) || woe.Code(err) != 9 {
		t.Errorf("%v, %v, %v", pairs, refs, err)
	}
	if p.Steps() != steps || p.Fault() != nil {
		t.Errorf("%d steps, %v", p.Steps(), p.Fault())
	}
}

// P9.3
func TestItems(t *testing.T) {
	p := heap(t, 4)
	checkItems(t, p, root, nil, nil)
	pairs := []api.Pair{{Key: 2, Val: 5}, {Key: 7, Val: -3}, {Key: 255, Val: 1 << 30}}
	refs := listUp(t, p, root, pairs...)
	checkItems(t, p, root, pairs, refs)
	// Tags, marks and numbers of the words that lead to a list are nothing to it, nor is what a key's or a value's word has beside its number.
	put(t, p, root, api.Word{Slot: 1, Gen: 1, Tag: 9, Num: 4, Mark: true})
	put(t, p, cell(refs[0], 2), api.Word{Slot: 3, Gen: 1, Tag: 3, Num: 8})
	put(t, p, cell(refs[0], 0), api.Word{Slot: 2, Gen: 1, Tag: 2, Num: 6, Mark: true})
	put(t, p, cell(refs[0], 1), api.Word{Slot: 2, Gen: 1, Tag: 2, Num: -9, Mark: true})
	checkItems(t, p, root, []api.Pair{{Key: 6, Val: -9}, pairs[2]}, []api.Word{refs[0], refs[2]})
	// A word without a slot ends it.
	put(t, p, cell(refs[0], 2), api.Word{Gen: 4, Tag: 9, Num: 3})
	checkItems(t, p, root, []api.Pair{{Key: 6, Val: -9}}, []api.Word{refs[0]})
	put(t, p, root, api.Word{Gen: 4, Tag: 9, Num: 3, Mark: true})
	checkItems(t, p, root, nil, nil)
}

// P9.3: a slot whose Next is marked isn't told, but its Ref is.
func TestItemsMarked(t *testing.T) {
	pairs := []api.Pair{{Key: 1, Val: 11}, {Key: 2, Val: 12}, {Key: 3, Val: 13}}
	for marks := range 8 {
		p := heap(t, 3)
		refs := listUp(t, p, root, pairs...)
		var there []api.Pair
		for i, w := range refs {
			if marks>>i&1 == 0 {
				there = append(there, pairs[i])
				continue
			}
			behind, _ := p.Peek(cell(w, 2))
			behind.Tag, behind.Mark = behind.Tag+1, true
			put(t, p, cell(w, 2), behind)
		}
		checkItems(t, p, root, there, refs)
	}
}

// P9.3: from any cell on, on the board and of a slot; from one that can't be looked at, nothing.
func TestItemsFromAnywhere(t *testing.T) {
	p := heap(t, 6)
	node := do(t, p, api.Access{Kind: api.New}).Word
	gone := do(t, p, api.Access{Kind: api.New}).Word
	pairs := []api.Pair{{Key: 2, Val: 5}, {Key: 7, Val: 3}}
	for _, at := range []api.Addr{root, {Field: 5}, {Field: 84}, cell(node, 0), cell(node, 2), cell(node, 9)} {
		refs := listUp(t, p, at, pairs...)
		checkItems(t, p, at, pairs, refs)
		checkItems(t, p, cell(refs[0], 2), pairs[1:], refs[1:])
		checkItems(t, p, cell(refs[1], 2), nil, nil)
		put(t, p, at, api.Word{})
		for _, w := range refs {
			do(t, p, api.Access{Kind: api.Free, Old: w})
		}
	}
	listUp(t, p, cell(node, 2), pairs...)
	put(t, p, cell(gone, 2), node)
	do(t, p, api.Access{Kind: api.Free, Old: gone})
	for _, at := range []api.Addr{
		{Field: -1}, {Field: 85}, {Gen: 1}, {Slot: 1, Gen: 1, Field: -1}, {Slot: 1, Gen: 1, Field: 10},
		{Slot: 1, Gen: 0, Field: 2}, {Slot: 1, Gen: 2, Field: 2}, cell(gone, 2), {Slot: 6, Field: 2}, {Slot: 7, Gen: 1, Field: 2}, {Slot: -1, Gen: 1, Field: 2},
	} {
		checkItems(t, p, at, nil, nil)
	}
	for _, n := range far {
		checkItems(t, p, api.Addr{Slot: n, Gen: 77, Field: n}, nil, nil)
		checkItems(t, p, api.Addr{Slot: 1, Gen: n, Field: 77}, nil, nil)
	}
}

// P9.3: a slot that was freed and given again is looked at in its generation.
func TestItemsOfAnotherGeneration(t *testing.T) {
	p := heap(t, 1)
	for gen := 1; gen < 4; gen++ {
		pairs := []api.Pair{{Key: gen, Val: 10 * gen}}
		refs := listUp(t, p, root, pairs...)
		checkItems(t, p, root, pairs, []api.Word{{Slot: 1, Gen: gen}})
		for _, wrong := range []int{gen - 1, gen + 1, -1, math.MinInt, math.MaxInt} {
			put(t, p, root, api.Word{Slot: 1, Gen: wrong})
			checkLeft(t, p, root)
		}
		do(t, p, api.Access{Kind: api.Free, Old: refs[0]})
		put(t, p, root, refs[0])
		checkLeft(t, p, root)
	}
}

// P9.3: of a nil plot, ahead of all else, and of one that has no root.
func TestItemsOfNoList(t *testing.T) {
	for _, at := range []api.Addr{root, {Field: -1}, {Slot: 1, Gen: 1, Field: 2}} {
		if pairs, refs, err := Items(nil, at); len(pairs) != 0 || len(refs) != 0 || !errors.Is(err, api.ErrNil) || woe.Code(err) != 2 {
			t.Errorf("%v, %v, %v", pairs, refs, err)
		}
	}
	for _, cells := range []int{0, 1} {
		p, err := plot.New(0, cells)
		if err != nil {
			t.Fatal(err)
		}
		checkItems(t, p, root, nil, nil)
	}
}

// P9.3: one that can't be looked at, wherever it is, behind slots that are marked, too; what is ahead of it isn't told.
func TestItemsOfWhatIsNotThere(t *testing.T) {
	for _, slot := range []int{math.MinInt, -1, 4, 5, 6, 1024, 1025, math.MaxInt} {
		for place := range 4 {
			p := heap(t, 5)
			refs := listUp(t, p, root, api.Pair{Key: 1}, api.Pair{Key: 2}, api.Pair{Key: 3})
			at := root
			if place > 0 {
				at = cell(refs[place-1], 2)
			}
			for _, gen := range []int{0, 1} {
				for _, mark := range []bool{false, true} {
					put(t, p, at, api.Word{Slot: slot, Gen: gen, Mark: mark})
					checkLeft(t, p, root)
				}
			}
		}
	}
	p := heap(t, 5)
	refs := listUp(t, p, root, api.Pair{Key: 1}, api.Pair{Key: 2}, api.Pair{Key: 3})
	for _, w := range []api.Word{refs[2], refs[1], refs[0]} {
		do(t, p, api.Access{Kind: api.Free, Old: w})
		checkLeft(t, p, root)
	}
}

// P9.3: as many slots as there can be, and those that never end.
func TestItemsOfMany(t *testing.T) {
	for _, many := range []int{1, 2, 1023, 1024} {
		p := heap(t, many)
		pairs := make([]api.Pair, many)
		for i := range pairs {
			pairs[i] = api.Pair{Key: i, Val: 2 * i}
		}
		refs := listUp(t, p, root, pairs...)
		checkItems(t, p, root, pairs, refs)
		for _, back := range []int{0, many / 2, many - 1} {
			for _, mark := range []bool{false, true} {
				w := refs[back]
				w.Mark = mark
				put(t, p, cell(refs[many-1], 2), w)
				checkLeft(t, p, root)
			}
		}
	}
}
