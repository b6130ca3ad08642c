package rite

import (
	"slices"

	"sexton/api"
	"sexton/board"
	"sexton/glyph"
	"sexton/sieve"
)

// retire takes a note, and goes on as a scan, if there are enough of them. What an engine doesn't load counts as zero.
func (r *Rite) retire(x api.Reply) {
	switch r.done {
	case begun:
		if r.engine == api.Never {
			r.succeed()
			return
		}
		if r.countsEras() {
			r.load(glyph.Field(r.call.Old, api.Birth), born)
			return
		}
		fallthrough
	case born:
		r.seen = x.Word
		if r.engine != api.Hazard {
			r.loadClock(clocked)
			return
		}
		fallthrough
	case clocked:
		r.clock = x.Word
		r.note()
		if r.countsEras() {
			r.turn()
			return
		}
		fallthrough
	case turned:
		if len(r.notes) < r.most {
			r.succeed()
			return
		}
		r.begin(api.Call{Kind: api.CallScan})
		r.scan(api.Reply{})
	}
}

// note takes a note of the slot that is retired.
func (r *Rite) note() {
	r.notes = append(r.notes, api.Note{Ref: glyph.Ref(r.call.Old), Birth: r.seen.Num, Death: r.clock.Num})
}

// turn lets the clock go on by one, unless another thread does so first.
func (r *Rite) turn() {
	r.ask(api.Access{Kind: api.Swap, At: board.Era(), Old: r.clock, New: glyph.Count(r.clock, 1)}, turned)
}

func (r *Rite) scan(x api.Reply) {
	switch r.done {
	case begun:
		if r.engine == api.Never {
			r.succeed()
			return
		}
		if r.engine == api.Epochs {
			r.loadClock(clocked)
			return
		}
		fallthrough
	case clocked:
		r.clock = x.Word
		r.listen()
	case heard:
		r.said = append(r.said, x.Word)
		if r.listen() {
			return
		}
		if r.engine == api.Epochs && sieve.May(r.clock.Num, spans(r.said)...) {
			r.turn()
			return
		}
		fallthrough
	case turned:
		if r.engine == api.Epochs {
			r.loadClock(timed)
			return
		}
		fallthrough
	case timed:
		r.free = r.loose(x.Word.Num)
		r.release()
	case freed:
		r.strike(x.Ok)
		r.release()
	}
}

// listen loads the next announcement of all that threads make; false, if all were loaded.
func (r *Rite) listen() bool {
	n := len(r.said)
	switch {
	case r.saysWords() && n < r.threads*api.Hazards:
		at, _ := board.Keep(n/api.Hazards, n%api.Hazards)
		r.load(at, heard)
	case r.saysSpan() && n < r.threads:
		at, _ := board.Span(n)
		r.load(at, heard)
	default:
		return false
	}
	return true
}

// loose answers the notes that may be freed by what was heard; now is the clock's number, if the engine asks for it.
func (r *Rite) loose(now int) []api.Note {
	var free []api.Note
	switch r.engine {
	case api.Hazard:
		free, _ = sieve.Slots(r.notes, r.said...)
	case api.Eras:
		free, _ = sieve.Eras(r.notes, nums(r.said)...)
	case api.Epochs:
		free, _ = sieve.Epochs(r.notes, now)
	case api.Interval:
		free, _ = sieve.Spans(r.notes, spans(r.said)...)
	}
	return free
}

// release frees the next one that may be; if none is left, the call is over.
func (r *Rite) release() {
	if len(r.free) == 0 {
		r.succeed()
		return
	}
	next := r.free[0]
	r.free = r.free[1:]
	r.at += slices.Index(r.notes[r.at:], next)
	r.ask(api.Access{Kind: api.Free, Old: next.Ref}, freed)
}

// strike takes out the note whose slot was to be freed; if it wasn't, the note stays, and the scan goes on behind it.
func (r *Rite) strike(gone bool) {
	if !gone {
		r.at++
		return
	}
	r.notes = slices.Delete(r.notes, r.at, r.at+1)
	r.freed++
}

// nums answers the numbers of words.
func nums(words []api.Word) []int {
	var all []int
	for _, w := range words {
		all = append(all, w.Num)
	}
	return all
}

// spans answers the spans that words tell of.
func spans(words []api.Word) []api.Span {
	var all []api.Span
	for _, w := range words {
		all = append(all, board.Hear(w))
	}
	return all
}
