package cortege

import (
	"sexton/api"
	"sexton/board"
	"sexton/glyph"
)

// The roots of a queue.
const (
	headRoot = iota
	tailRoot
)

// An operation goes on by what was done last.
const (
	begun    = iota // nothing: it begins
	given           // a slot was asked for
	filled          // the node's Val was stored
	looked          // the root was loaded that is to be changed
	sighted         // the tail was loaded beside the head
	followed        // the Next was loaded behind that root's slot
	checked         // the root was loaded once more
	helped          // the tail was to be brought on by one
	linked          // the last slot's Next was to have the node
	brought         // the tail was to have the node
	read            // the value behind the head's slot was loaded
	swapped         // the head was to have the slot behind
	retired         // the slot that was the head's was retired
	over            // all of it: it is done
)

// state is where an operation stands.
type state struct {
	call api.Call // that was asked for last
	done int      // what is done by the call
	node api.Word // the slot that is enqueued
	head api.Word // what the head had
	tail api.Word // what the tail had
	next api.Word // what the Next had of the slot that is looked behind
	val  int      // what the Val had of the slot behind
}

// ask lets a call be the next one, by which that is done.
func (s *state) ask(c api.Call, done int) { s.call, s.done = c, done }

// end lets the operation be done; no step follows, so the call stays.
func (s *state) end(code, val int) {
	*s = state{}
	s.ask(api.Call{Kind: api.CallDone, Answer: api.Answer{Code: code, Val: val}}, over)
}

func (s *state) load(at api.Addr, done int) {
	s.ask(api.Call{Kind: api.CallLoad, At: at}, done)
}

func (s *state) store(at api.Addr, w api.Word, done int) {
	s.ask(api.Call{Kind: api.CallStore, At: at, New: w}, done)
}

// protect loads a cell, and keeps its slot from being freed by the announcement i.
func (s *state) protect(at api.Addr, i, done int) {
	s.ask(api.Call{Kind: api.CallProtect, At: at, I: i}, done)
}

// swap lets a cell have another slot, if it still has what was seen.
func (s *state) swap(at api.Addr, seen, ref api.Word, done int) {
	s.ask(api.Call{Kind: api.CallSwap, At: at, Old: seen, New: glyph.To(seen, ref)}, done)
}

// bring brings a tail that lags behind on to the slot behind it.
func (s *state) bring() { s.swap(root(tailRoot), s.tail, s.next, helped) }

// root answers where one of the queue's roots stands.
func root(n int) api.Addr {
	at, _ := board.Root(n)
	return at
}
