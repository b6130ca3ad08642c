package cortege

import (
	"sexton/api"
	"sexton/glyph"
)

func (j *Job) enqueue(x api.Reply) {
	switch j.done {
	case begun:
		j.ask(api.Call{Kind: api.CallAlloc}, given)
	case given:
		if !x.Ok {
			j.end(api.Full, 0)
			return
		}
		j.node = x.Word
		j.store(glyph.Field(j.node, api.Val), glyph.Num(j.op.Val), filled)
	case linked:
		if x.Ok {
			j.swap(root(tailRoot), j.tail, j.node, brought)
			return
		}
		// Another thread was faster; the node is as it was ahead of the first look.
		fallthrough
	case filled, helped:
		j.lookAtTail()
	case looked:
		j.tail = x.Word
		j.load(glyph.Field(j.tail, api.Next), followed)
	case followed:
		j.next = x.Word
		j.load(root(tailRoot), checked)
	case checked:
		j.link(x.Word)
	case brought:
		// Who was faster has brought the tail on.
		j.end(api.Yes, 0)
	}
}

func (j *Job) lookAtTail() { j.protect(root(tailRoot), 0, looked) }

// link lets the node be the one behind the tail's slot, if that is the last one; now is what the tail has.
func (j *Job) link(now api.Word) {
	switch {
	case !glyph.Same(now, j.tail):
		j.lookAtTail()
	case !glyph.Nil(j.next):
		j.bring()
	default:
		j.swap(glyph.Field(j.tail, api.Next), j.next, j.node, linked)
	}
}

func (j *Job) dequeue(x api.Reply) {
	switch j.done {
	case swapped:
		if x.Ok {
			j.ask(api.Call{Kind: api.CallRetire, Old: j.head}, retired)
			return
		}
		// Another thread was faster; nothing is done yet.
		fallthrough
	case begun, helped:
		j.lookAtHead()
	case looked:
		j.head = x.Word
		j.load(root(tailRoot), sighted)
	case sighted:
		j.tail = x.Word
		j.protect(glyph.Field(j.head, api.Next), 1, followed)
	case followed:
		j.next = x.Word
		j.load(root(headRoot), checked)
	case checked:
		j.take(x.Word)
	case read:
		// Behind the swap the slot may be another thread's, so its value is read ahead of it.
		j.val = x.Word.Num
		j.swap(root(headRoot), j.head, j.next, swapped)
	case retired:
		j.end(api.Yes, j.val)
	}
}

func (j *Job) lookAtHead() { j.protect(root(headRoot), 0, looked) }

// take goes on to the value behind the head's slot, if there is one, and the tail isn't left behind by that; now is what the head has.
func (j *Job) take(now api.Word) {
	switch {
	case !glyph.Same(now, j.head):
		j.lookAtHead()
	case glyph.Nil(j.next):
		j.end(api.Empty, 0)
	case j.head.Slot == j.tail.Slot:
		j.bring()
	default:
		j.load(glyph.Field(j.next, api.Val), read)
	}
}
