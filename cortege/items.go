package cortege

import (
	"sexton/api"
	"sexton/glyph"
	"sexton/plot"
	"sexton/woe"
)

// Items answers the values of a plot's queue, the eldest first, and all its slots, the sentinel first; ErrNil of a nil plot; ErrLeft, if one can't be looked at, or they don't end.
func Items(p *plot.Plot) ([]int, []api.Word, error) {
	if p == nil {
		return nil, nil, woe.At(place, api.ErrNil)
	}
	var vals []int
	var refs []api.Word
	at := root(headRoot)
	// Behind the last slot there is one more look: at its Next, which has none.
	for range api.MaxSlots + 1 {
		w, ok := p.Peek(at)
		if !ok {
			break
		}
		if glyph.Nil(w) {
			return vals, refs, nil
		}
		// The sentinel's value is nobody's any more.
		if len(refs) > 0 {
			// Of a slot that isn't there the next look tells.
			val, _ := p.Peek(glyph.Field(w, api.Val))
			vals = append(vals, val.Num)
		}
		refs = append(refs, glyph.Ref(w))
		at = glyph.Field(w, api.Next)
	}
	return nil, nil, woe.At(place, api.ErrLeft)
}
