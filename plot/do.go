package plot

import (
	"sexton/api"
	"sexton/glyph"
	"sexton/woe"
)

// Do makes an access; ErrNil of a nil plot; ErrArg, if it can't be. One that meets a slot that isn't there any more is a step, but does nothing.
func (p *Plot) Do(a api.Access) (api.Reply, error) {
	if p == nil {
		return api.Reply{}, woe.At(place, api.ErrNil)
	}
	if !p.can(a) {
		return api.Reply{}, woe.At(place, api.ErrArg)
	}
	p.steps++
	if err := p.wrong(a); err != nil {
		return p.blame(a, err), nil
	}
	switch a.Kind {
	case api.New:
		return p.give(a.New.Num), nil
	case api.Free:
		return p.take(a.Old.Slot), nil
	}
	return touch(p.cell(a.At), a), nil
}

// can tells whether an access can be, right or wrong.
func (p *Plot) can(a api.Access) bool {
	switch a.Kind {
	case api.Load, api.Store, api.Swap:
		return p.cell(a.At) != nil
	case api.New:
		return true
	case api.Free:
		return p.slot(a.Old.Slot) != nil
	}
	return false
}

// slot answers a slot of the heap; nil, if there is none, as of the board.
func (p *Plot) slot(n int) *slot {
	if n < 1 || n > len(p.slots) {
		return nil
	}
	return &p.slots[n-1]
}

// cell answers a cell of the board or of a slot, free or not; nil, if there is none.
func (p *Plot) cell(at api.Addr) *api.Word {
	var cells []api.Word
	if at.Slot == 0 && at.Gen == 0 {
		cells = p.board
	} else if s := p.slot(at.Slot); s != nil {
		cells = s.cells[:]
	}
	if at.Field < 0 || at.Field >= len(cells) {
		return nil
	}
	return &cells[at.Field]
}

// wrong answers what is wrong with an access that can be; nil, if nothing is.
func (p *Plot) wrong(a api.Access) error {
	switch a.Kind {
	case api.New:
		return nil
	case api.Free:
		return p.missed(a.Old.Slot, a.Old.Gen, api.ErrTwice)
	}
	return p.missed(a.At.Slot, a.At.Gen, api.ErrFreed)
}

// missed answers free, if the slot n is free, ErrStale, if it is another one now; nil, if it is met, as the board always is.
func (p *Plot) missed(n, gen int, free error) error {
	s := p.slot(n)
	switch {
	case s == nil:
		return nil
	case !s.given:
		return free
	case s.gen != gen:
		return api.ErrStale
	}
	return nil
}

// blame keeps the first fault, and answers what a wrong access is answered.
func (p *Plot) blame(a api.Access, err error) api.Reply {
	if p.fault == nil {
		p.fault = woe.At(p.steps, err)
	}
	switch a.Kind {
	case api.Load, api.Swap:
		return api.Reply{Word: glyph.Num(-1)}
	}
	return api.Reply{}
}

// give takes the next slot from the row, born at an era; not Ok, if none is free.
func (p *Plot) give(birth int) api.Reply {
	last := len(p.free) - 1
	if last < 0 {
		return api.Reply{}
	}
	n := p.free[last]
	p.free = p.free[:last]
	p.made++
	s := p.slot(n)
	*s = slot{gen: s.gen + 1, given: true}
	s.cells[api.Birth] = glyph.Num(birth)
	return api.Reply{Word: api.Word{Slot: n, Gen: s.gen}, Ok: true}
}

// take lays a slot back on the row.
func (p *Plot) take(n int) api.Reply {
	p.slot(n).given = false
	p.free = append(p.free, n)
	return api.Reply{Ok: true}
}

// touch loads, stores or swaps what the cell has.
func touch(cell *api.Word, a api.Access) api.Reply {
	var seen api.Word
	switch a.Kind {
	case api.Load:
		seen = *cell
	case api.Swap:
		seen = *cell
		if !glyph.Same(seen, a.Old) {
			return api.Reply{Word: seen}
		}
		fallthrough
	case api.Store:
		*cell = a.New
	}
	return api.Reply{Word: seen, Ok: true}
}
