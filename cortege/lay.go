package cortege

import (
	"sexton/api"
	"sexton/glyph"
	"sexton/plot"
	"sexton/woe"
)

// Lay lays an empty queue on a plot; ErrNil of a nil plot; ErrFull, if there is no slot for its sentinel; ErrArg, if the board hasn't its roots.
func Lay(p *plot.Plot) error {
	if p == nil {
		return woe.At(place, api.ErrNil)
	}
	// Of a slot that was given it could be told ever after, so it is asked for when nothing else can fail.
	if _, ok := p.Peek(root(tailRoot)); !ok {
		return woe.At(place, api.ErrArg)
	}
	x, _ := p.Do(api.Access{Kind: api.New})
	if !x.Ok {
		return woe.At(place, api.ErrFull)
	}
	for _, n := range [...]int{headRoot, tailRoot} {
		p.Do(api.Access{Kind: api.Store, At: root(n), New: glyph.Ref(x.Word)})
	}
	return nil
}
