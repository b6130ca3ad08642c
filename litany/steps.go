package litany

import (
	"sexton/api"
	"sexton/glyph"
)

func (j *Job) insert(x api.Reply) {
	switch j.done {
	case begun:
		j.ask(api.Call{Kind: api.CallAlloc}, given)
	case given:
		if !x.Ok {
			j.end(api.Full, 0)
			return
		}
		j.node = x.Word
		j.store(glyph.Field(j.node, api.Key), glyph.Num(j.key), keyed)
	case keyed:
		j.store(glyph.Field(j.node, api.Val), glyph.Num(j.op.Val), filled)
	case linked:
		if x.Ok {
			j.end(api.Yes, 0)
			return
		}
		// Another thread was faster; the node is as it was ahead of the first walk.
		fallthrough
	case filled:
		j.search(walked)
	case walked:
		if !j.onward(x) {
			j.put()
		}
	case joined:
		prev, cur, _ := j.walk.Place()
		j.swap(prev, cur, glyph.To(cur, j.node), linked)
	case dropped:
		j.end(api.Had, 0)
	}
}

// put goes on with the node to where the walk came; it is given back, if the key is there.
func (j *Job) put() {
	if j.walk.Found() {
		j.ask(api.Call{Kind: api.CallDrop, Old: j.node}, dropped)
		return
	}
	_, cur, _ := j.walk.Place()
	j.store(glyph.Field(j.node, api.Next), glyph.Ref(cur), joined)
}

func (j *Job) delete(x api.Reply) {
	switch j.done {
	case marked:
		if x.Ok {
			j.lead()
			return
		}
		// Another thread was faster; nothing is done yet.
		fallthrough
	case begun:
		j.search(walked)
	case walked:
		if !j.onward(x) {
			j.look()
		}
	case read:
		// Behind the mark the slot may be led past and given again, so its value is read ahead of it.
		j.val = x.Word.Num
		_, cur, next := j.walk.Place()
		j.swap(glyph.Field(cur, api.Next), next, glyph.Marked(next), marked)
	case passed:
		if !x.Ok {
			j.search(cleared)
			return
		}
		_, cur, _ := j.walk.Place()
		j.retire(cur)
	case cleared:
		if j.onward(x) {
			return
		}
		// Whoever led past the slot has retired it.
		fallthrough
	case retired:
		j.end(api.Yes, j.val)
	}
}

func (j *Job) get(x api.Reply) {
	switch j.done {
	case begun:
		j.search(walked)
	case walked:
		if !j.onward(x) {
			j.look()
		}
	case read:
		j.end(api.Yes, x.Word.Num)
	}
}

// search begins a walk.
func (j *Job) search(done int) {
	j.walk = NewWalk(j.start, j.key)
	c, _ := j.walk.Next(api.Reply{})
	j.ask(c, done)
}

// look goes on to the value of the slot that the walk found, if it did.
func (j *Job) look() {
	if !j.walk.Found() {
		j.end(api.Empty, 0)
		return
	}
	_, cur, _ := j.walk.Place()
	j.load(glyph.Field(cur, api.Val), read)
}
