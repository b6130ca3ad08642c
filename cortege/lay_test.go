package cortege

import (
	"errors"
	"slices"
	"testing"

	"sexton/api"
	"sexton/board"
	"sexton/plot"
	"sexton/woe"
)

// cellsOf answers what all cells of a plot have, of the board and of the slots that aren't free.
func cellsOf(p *plot.Plot) []api.Word {
	var all []api.Word
	for n := range 200 {
		if w, ok := p.Peek(api.Addr{Field: n}); ok {
			all = append(all, w)
		}
	}
	for _, ref := range p.Used() {
		for n := range api.Fields {
			w, _ := p.Peek(cell(ref, n))
			all = append(all, w)
		}
	}
	return all
}

func checkLay(t *testing.T, p *plot.Plot, want api.Word) {
	t.Helper()
	steps, live, made := p.Steps(), p.Live(), p.Made()
	before := cellsOf(p)
	if err := Lay(p); err != nil || p.Fault() != nil {
		t.Fatal(err, p.Fault())
	}
	before[0], before[1] = want, want
	after := cellsOf(p)
	// The slot's own cells are zero, its Birth, too; where they stand among those of the others doesn't matter here.
	at := slices.Index(p.Used(), want)
	if at < 0 {
		t.Fatalf("%v isn't among %v", want, p.Used())
	}
	at = board.Cells() + at*api.Fields
	if !slices.Equal(after[at:at+api.Fields], make([]api.Word, api.Fields)) || !slices.Equal(slices.Delete(after, at, at+api.Fields), before) {
		t.Errorf("%v, not %v", after, before)
	}
	if p.Steps() != steps+3 || p.Live() != live+1 || p.Made() != made+1 {
		t.Errorf("%d steps, %d live, %d made", p.Steps(), p.Live(), p.Made())
	}
	checkItems(t, p, nil, []api.Word{want})
}

// P8.1: the sentinel is a slot of its own, in its generation; whatever stood at the roots.
func TestLay(t *testing.T) {
	p := heap(t, 4)
	checkLay(t, p, api.Word{Slot: 1, Gen: 1})
	put(t, p, headAt, api.Word{Slot: 7, Gen: 2, Tag: 5, Num: 3, Mark: true})
	put(t, p, tailAt, api.Word{Slot: 1, Gen: 1, Tag: 5, Num: 3, Mark: true})
	put(t, p, cell(api.Word{Slot: 1, Gen: 1}, 2), api.Word{Slot: 1, Gen: 1, Tag: 6})
	checkLay(t, p, api.Word{Slot: 2, Gen: 1})
	for gen := 2; gen < 5; gen++ {
		put(t, p, cell(api.Word{Slot: 1, Gen: gen - 1}, 9), api.Word{Num: 8})
		do(t, p, api.Access{Kind: api.Free, Old: api.Word{Slot: 1, Gen: gen - 1}})
		checkLay(t, p, api.Word{Slot: 1, Gen: gen})
	}
}

// checkNotLaid looks whether there is that error, and all is as it was.
func checkNotLaid(t *testing.T, p *plot.Plot, want error) {
	t.Helper()
	live, made, used, before := p.Live(), p.Made(), p.Used(), cellsOf(p)
	if err := Lay(p); !errors.Is(err, want) {
		t.Errorf("%v, not %v", err, want)
	}
	if p.Live() != live || p.Made() != made || !slices.Equal(p.Used(), used) || !slices.Equal(cellsOf(p), before) || p.Fault() != nil {
		t.Errorf("%d live, %d made, %v, %v, %v", p.Live(), p.Made(), p.Used(), cellsOf(p), p.Fault())
	}
}

// P8.1, rule 7: without a slot nothing is laid.
func TestLayWithoutRoom(t *testing.T) {
	checkNotLaid(t, heap(t, 0), api.ErrFull)
	p := heap(t, 2)
	refs := lineUp(t, p, 4, 5)
	put(t, p, tailAt, refs[1])
	checkNotLaid(t, p, api.ErrFull)
	checkItems(t, p, []int{5}, refs)
	// The board needs both roots, no more.
	p, err := plot.New(0, 2)
	if err != nil {
		t.Fatal(err)
	}
	checkNotLaid(t, p, api.ErrFull)
	if p, err = plot.New(1, 2); err != nil {
		t.Fatal(err)
	}
	if err = Lay(p); err != nil {
		t.Error(err)
	}
}

// P8.1, rule 7: without a plot, or without its roots, nothing is laid.
func TestLayNowhere(t *testing.T) {
	if err := Lay(nil); !errors.Is(err, api.ErrNil) || woe.Code(err) != 2 {
		t.Error(err)
	}
	for cells := range 2 {
		p, err := plot.New(3, cells)
		if err != nil {
			t.Fatal(err)
		}
		checkNotLaid(t, p, api.ErrArg)
		if p.Steps() != 0 {
			t.Errorf("%d steps", p.Steps())
		}
	}
}
