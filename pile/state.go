package pile

import (
	"sexton/api"
	"sexton/board"
	"sexton/glyph"
)

// An operation goes on by what was done last.
const (
	begun    = iota // nothing: it begins
	given           // a slot was asked for
	filled          // the node's Val was stored
	looked          // the root was loaded
	linked          // the node's Next was stored
	followed        // the top's Next was loaded
	swapped         // the root was to have another slot
	read            // the top's Val was loaded
	retired         // the top was retired
	over            // all of it: it is done
)

// state is where an operation stands.
type state struct {
	call api.Call // that was asked for last
	done int      // what is done by the call
	node api.Word // the slot that is pushed
	top  api.Word // what the root had
	val  int      // what the top's Val had
}

// ask lets a call be the next one, by which that is done.
func (s *state) ask(c api.Call, done int) { s.call, s.done = c, done }

// end lets the operation be done; no step follows, so the call stays.
func (s *state) end(code, val int) {
	*s = state{}
	s.ask(api.Call{Kind: api.CallDone, Answer: api.Answer{Code: code, Val: val}}, over)
}

func (s *state) load(at api.Addr, done int) {
	s.ask(api.Call{Kind: api.CallLoad, At: at}, done)
}

func (s *state) store(at api.Addr, w api.Word, done int) {
	s.ask(api.Call{Kind: api.CallStore, At: at, New: w}, done)
}

// protectTop loads the root, and keeps the top from being freed.
func (s *state) protectTop() {
	s.ask(api.Call{Kind: api.CallProtect, At: root()}, looked)
}

// swapTop lets another slot be the top, if the top is still the one that was seen.
func (s *state) swapTop(ref api.Word) {
	s.ask(api.Call{Kind: api.CallSwap, At: root(), Old: s.top, New: glyph.To(s.top, ref)}, swapped)
}

// root answers where the top stands.
func root() api.Addr {
	at, _ := board.Root(0)
	return at
}
