package rite

import (
	"slices"

	"sexton/api"
	"sexton/board"
	"sexton/glyph"
)

// goOn brings the call under way to its next access, or to its end; x is what the last access answered.
func (r *Rite) goOn(x api.Reply) {
	switch r.call.Kind {
	case api.CallEnter:
		r.enter(x)
	case api.CallLeave:
		r.leave()
	case api.CallLoad, api.CallStore, api.CallSwap:
		r.touch(x)
	case api.CallProtect:
		r.protect(x)
	case api.CallHold:
		r.hold()
	case api.CallAlloc:
		r.alloc(x)
	case api.CallDrop:
		r.drop()
	case api.CallRetire:
		r.retire(x)
	case api.CallScan:
		r.scan(x)
	}
}

func (r *Rite) enter(x api.Reply) {
	switch r.done {
	case begun:
		if r.saysSpan() {
			r.loadClock(clocked)
			return
		}
		r.succeed()
	case clocked:
		now := x.Word.Num
		r.saySpan(api.Span{Is: true, Low: now, High: now})
	case announced:
		r.succeed()
	}
}

// leave takes back one announcement after the other: whatever the engine, it has but its own kind of them.
func (r *Rite) leave() {
	n := slices.IndexFunc(r.kept[:], func(w api.Word) bool { return w != api.Word{} })
	switch {
	case n >= 0:
		r.say(n, api.Word{})
	case r.span != api.Span{}:
		r.saySpan(api.Span{})
	default:
		r.succeed()
	}
}

func (r *Rite) touch(x api.Reply) {
	if r.done == touched {
		r.end(x)
		return
	}
	kind := api.Load + r.call.Kind - api.CallLoad
	r.ask(api.Access{Kind: kind, At: r.call.At, Old: r.call.Old, New: r.call.New}, touched)
}

func (r *Rite) protect(x api.Reply) {
	switch r.done {
	case announced:
		// What was seen may have been freed ahead of the announcement, so it is looked at again.
		fallthrough
	case begun:
		r.load(r.call.At, touched)
	case touched:
		r.seen = x.Word
		if r.countsEras() {
			r.loadClock(clocked)
			return
		}
		fallthrough
	case clocked:
		r.keep(x.Word.Num)
	}
}

// keep lets the call be over, if what was seen is kept by what is announced; else that is announced. Now is the clock's number, if the engine counts eras.
func (r *Rite) keep(now int) {
	i := r.call.I
	switch r.engine {
	case api.Hazard:
		if ref := glyph.Ref(r.seen); !glyph.Nil(ref) && r.kept[i] != ref {
			r.say(i, ref)
			return
		}
	case api.Eras:
		if r.kept[i] == (api.Word{}) || r.kept[i].Num != now {
			r.say(i, glyph.Num(now))
			return
		}
	case api.Interval:
		if !r.span.Is || r.span.High != now {
			r.saySpan(upTo(r.span, now))
			return
		}
	}
	r.end(api.Reply{Word: r.seen, Ok: true})
}

// hold has nothing to do by engines that announce no words: all of theirs are zero.
func (r *Rite) hold() {
	if w := r.kept[r.call.J]; r.kept[r.call.I] != w {
		r.say(r.call.I, w)
		return
	}
	r.succeed()
}

func (r *Rite) alloc(x api.Reply) {
	switch r.done {
	case begun:
		if r.countsEras() {
			r.loadClock(clocked)
			return
		}
		fallthrough
	case clocked:
		r.ask(api.Access{Kind: api.New, New: glyph.Num(x.Word.Num)}, touched)
	case touched:
		r.end(x)
	}
}

func (r *Rite) drop() {
	if r.done == touched {
		r.succeed()
		return
	}
	r.ask(api.Access{Kind: api.Free, Old: r.call.Old}, touched)
}

// saysSpan tells whether the engine announces spans.
func (r *Rite) saysSpan() bool { return r.engine == api.Epochs || r.engine == api.Interval }

// saysWords tells whether the engine announces slots or eras one by one.
func (r *Rite) saysWords() bool { return r.engine == api.Hazard || r.engine == api.Eras }

// countsEras tells whether the engine asks in which eras a slot was born and retired.
func (r *Rite) countsEras() bool { return r.engine == api.Eras || r.engine == api.Interval }

// say stores the own announcement n.
func (r *Rite) say(n int, w api.Word) {
	r.kept[n] = w
	at, _ := board.Keep(r.me, n)
	r.announce(at, w)
}

// saySpan stores the own span.
func (r *Rite) saySpan(s api.Span) {
	r.span = s
	at, _ := board.Span(r.me)
	r.announce(at, wordOf(s))
}

// upTo answers the span with its end at now; one that isn't begins there, too.
func upTo(s api.Span, now int) api.Span {
	if !s.Is {
		s.Low = now
	}
	return api.Span{Is: true, Low: s.Low, High: now}
}

// wordOf answers the span's word.
func wordOf(s api.Span) api.Word {
	w, err := board.Say(s)
	if err != nil {
		// No clock comes to such eras, but replies may be any; a zero word would keep nothing.
		return api.Word{Num: s.Low, Tag: s.High, Mark: true}
	}
	return w
}
