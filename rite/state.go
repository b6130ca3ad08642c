package rite

import (
	"sexton/api"
	"sexton/board"
)

// A call goes on by what was done last.
const (
	begun     = iota // nothing: it begins
	touched          // the access that the structure asked for
	announced        // an announcement was stored
	born             // a slot's Birth was loaded
	clocked          // the clock was loaded
	turned           // the clock was turned
	timed            // the clock was loaded once more
	heard            // an announcement was loaded
	freed            // a slot was to be freed
)

// state is where the call stands that is under way, if one is.
type state struct {
	last   api.Reply // of the last call that is over
	busy   bool
	call   api.Call
	done   int        // what is done by the access
	access api.Access // that is to be made
	seen   api.Word   // what the cell had that the call is about
	clock  api.Word   // what the clock was when it was loaded first
	said   []api.Word // what all threads announce, as far as it was loaded
	free   []api.Note // what may be freed by a scan, and isn't yet
	at     int        // where among all notes the one stands that is being freed
}

// begin lets the call be under way.
func (s *state) begin(c api.Call) { *s = state{last: s.last, busy: true, call: c} }

// end lets the call be over.
func (s *state) end(x api.Reply) { *s = state{last: x} }

// succeed lets the call be over, with nothing to tell.
func (s *state) succeed() { s.end(api.Reply{Ok: true}) }

// ask lets an access be the next one, by which that is done.
func (s *state) ask(a api.Access, done int) { s.access, s.done = a, done }

func (s *state) load(at api.Addr, done int) { s.ask(api.Access{Kind: api.Load, At: at}, done) }

func (s *state) loadClock(done int) { s.load(board.Era(), done) }

func (s *state) announce(at api.Addr, w api.Word) {
	s.ask(api.Access{Kind: api.Store, At: at, New: w}, announced)
}
