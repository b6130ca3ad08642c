package litany

import (
	"sexton/api"
	"sexton/glyph"
	"sexton/plot"
	"sexton/woe"
)

// Items answers what a plot's list has, from a cell on, and all its slots, the marked ones too; ErrNil of a nil plot; ErrLeft, if a slot can't be looked at, or they don't end.
func Items(p *plot.Plot, start api.Addr) ([]api.Pair, []api.Word, error) {
	if p == nil {
		return nil, nil, woe.At(place, api.ErrNil)
	}
	w, ok := p.Peek(start)
	if !ok {
		return nil, nil, nil
	}
	var pairs []api.Pair
	var refs []api.Word
	// Behind the last slot there is one more look: whether there is another one.
	for range api.MaxSlots + 1 {
		if glyph.Nil(w) {
			return pairs, refs, nil
		}
		next, ok := p.Peek(glyph.Field(w, api.Next))
		if !ok {
			break
		}
		if !next.Mark {
			pairs = append(pairs, pair(p, w))
		}
		refs = append(refs, glyph.Ref(w))
		w = next
	}
	return nil, nil, woe.At(place, api.ErrLeft)
}

// pair answers the key and the value of a slot.
func pair(p *plot.Plot, w api.Word) api.Pair {
	key, _ := p.Peek(glyph.Field(w, api.Key))
	val, _ := p.Peek(glyph.Field(w, api.Val))
	return api.Pair{Key: key.Num, Val: val.Num}
}
