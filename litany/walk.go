package litany

import (
	"sexton/api"
	"sexton/glyph"
)

// Walk is a search under way.
type Walk struct {
	asking
	sight
	start api.Addr
	key   int
}

// sight is what a walk knows.
type sight struct {
	prev  api.Addr // the cell ahead
	cur   api.Word // the word that it had: the slot that is looked at
	next  api.Word // the word that the Next of that slot had
	num   int      // the number that its Key had
	found bool
}

// NewWalk answers a walk for a key, from a cell on.
func NewWalk(start api.Addr, key int) *Walk {
	return &Walk{sight: sight{prev: start}, start: start, key: key}
}

// Next answers the next call; x is what the last one was answered; false, if the walk is over.
func (w *Walk) Next(x api.Reply) (api.Call, bool) {
	if w == nil {
		return api.Call{}, false
	}
	w.step(x)
	return w.call, w.done != over
}

// Found tells whether the walk is over and the key is there.
func (w *Walk) Found() bool { return w != nil && w.found }

// Place answers the cell ahead, the word that it had, and the word behind that one's slot, as far as they are known.
func (w *Walk) Place() (api.Addr, api.Word, api.Word) {
	if w == nil {
		return api.Addr{}, api.Word{}, api.Word{}
	}
	return w.prev, w.cur, w.next
}

func (w *Walk) step(x api.Reply) {
	switch w.done {
	case passed:
		if x.Ok {
			w.retire(w.cur)
			return
		}
		// Another thread was faster, and the cell ahead may be one of a slot that is out.
		fallthrough
	case begun:
		w.enter()
	case entered:
		w.cur = x.Word
		w.begin()
	case handed:
		w.follow()
	case followed:
		w.next = x.Word
		w.load(glyph.Field(w.cur, api.Key), weighed)
	case weighed:
		w.num = x.Word.Num
		w.load(w.prev, checked)
	case checked:
		w.judge(x.Word)
	case retired:
		w.goOn(glyph.To(w.cur, w.next))
	case kept:
		w.goOn(w.next)
	}
}

// enter looks at the first cell.
func (w *Walk) enter() {
	w.prev = w.start
	w.protect(w.prev, keepCur, entered)
}

// begin goes on to the first slot, if there is one.
func (w *Walk) begin() {
	switch {
	case w.cur.Mark:
		w.enter()
	case glyph.Nil(w.cur):
		w.end(false)
	default:
		w.follow()
	}
}

// follow looks behind the slot.
func (w *Walk) follow() {
	w.protect(glyph.Field(w.cur, api.Next), keepNext, followed)
}

// judge tells what is to be done with the slot, if it is still the one behind the cell ahead; now is what that has.
func (w *Walk) judge(now api.Word) {
	switch {
	case !glyph.Same(now, w.cur):
		w.enter()
	case w.next.Mark:
		w.swap(w.prev, w.cur, glyph.To(w.cur, w.next), passed)
	case w.num >= w.key:
		w.end(w.num == w.key)
	default:
		w.prev = glyph.Field(w.cur, api.Next)
		w.hold(keepPrev, keepCur, kept)
	}
}

// goOn goes on to the slot behind, if there is one.
func (w *Walk) goOn(cur api.Word) {
	w.cur = cur
	if glyph.Nil(cur) {
		w.end(false)
		return
	}
	w.hold(keepCur, keepNext, handed)
}

// end lets the walk be over; no step follows.
func (w *Walk) end(found bool) {
	w.asking = asking{done: over}
	w.found = found
}
