package litany

import (
	"sexton/api"
	"sexton/glyph"
)

// Walks and operations go on by what was done last.
const (
	begun = iota // nothing: it begins
	over         // all of it: it is done

	// Of both.
	passed  // the cell ahead was to have the slot behind a marked one
	retired // the slot that was led past was retired

	// Of a walk.
	entered  // the first cell was loaded
	followed // the Next was loaded of the slot that is looked at
	weighed  // its Key was loaded
	checked  // the cell ahead was loaded once more
	kept     // the slot of the cell ahead is kept on
	handed   // the slot that is looked at next is kept as the one before was

	// Of an operation.
	given   // a slot was asked for
	keyed   // the node's Key was stored
	filled  // the node's Val was stored
	walked  // a step of the walk
	joined  // the node's Next was stored
	linked  // the cell ahead was to have the node
	dropped // the node was given back
	read    // the Val was loaded of the slot found
	marked  // its Next was to be marked
	cleared // a step of the walk that takes it out
)

// What the announcements of a walk keep.
const (
	keepNext = iota // the slot behind the one that is looked at
	keepCur         // the slot that is looked at
	keepPrev        // the slot that has the cell ahead
)

// asking is the part of a state that asks for calls.
type asking struct {
	call api.Call // that was asked for last
	done int      // what is done by the call
}

// ask lets a call be the next one, by which that is done.
func (s *asking) ask(c api.Call, done int) { s.call, s.done = c, done }

func (s *asking) load(at api.Addr, done int) {
	s.ask(api.Call{Kind: api.CallLoad, At: at}, done)
}

func (s *asking) store(at api.Addr, w api.Word, done int) {
	s.ask(api.Call{Kind: api.CallStore, At: at, New: w}, done)
}

// swap lets a cell have another word, if it still has what was seen.
func (s *asking) swap(at api.Addr, seen, now api.Word, done int) {
	s.ask(api.Call{Kind: api.CallSwap, At: at, Old: seen, New: now}, done)
}

// retire hands a slot on that can't be reached any more.
func (s *asking) retire(w api.Word) {
	s.ask(api.Call{Kind: api.CallRetire, Old: w}, retired)
}

// protect loads a cell, and keeps its slot from being freed by the announcement i.
func (s *asking) protect(at api.Addr, i, done int) {
	s.ask(api.Call{Kind: api.CallProtect, At: at, I: i}, done)
}

// hold lets the announcement i keep what j keeps.
func (s *asking) hold(i, j, done int) {
	s.ask(api.Call{Kind: api.CallHold, I: i, J: j}, done)
}

// state is where an operation stands.
type state struct {
	asking
	walk *Walk
	node api.Word // the slot that is inserted
	val  int      // what the Val had of the slot found
}

// end lets the operation be done; no step follows, so the call stays.
func (s *state) end(code, val int) {
	*s = state{}
	s.ask(api.Call{Kind: api.CallDone, Answer: api.Answer{Code: code, Val: val}}, over)
}

// onward lets the walk make its next call; false, if it is over.
func (s *state) onward(x api.Reply) bool {
	c, ok := s.walk.Next(x)
	if ok {
		s.call = c
	}
	return ok
}

// lead leads the cell ahead of the slot found past it.
func (s *state) lead() {
	prev, cur, next := s.walk.Place()
	s.swap(prev, cur, glyph.To(cur, next), passed)
}
