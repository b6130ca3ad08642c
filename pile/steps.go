package pile

import (
	"sexton/api"
	"sexton/glyph"
)

func (j *Job) push(x api.Reply) {
	switch j.done {
	case begun:
		j.ask(api.Call{Kind: api.CallAlloc}, given)
	case given:
		if !x.Ok {
			j.end(api.Full, 0)
			return
		}
		j.node = x.Word
		j.store(glyph.Field(j.node, api.Val), glyph.Num(j.op.Val), filled)
	case swapped:
		if x.Ok {
			j.end(api.Yes, 0)
			return
		}
		// Another thread was faster; the node is as it was ahead of the first look.
		fallthrough
	case filled:
		j.load(root(), looked)
	case looked:
		j.top = x.Word
		j.store(glyph.Field(j.node, api.Next), glyph.Ref(j.top), linked)
	case linked:
		j.swapTop(j.node)
	}
}

func (j *Job) pop(x api.Reply) {
	switch j.done {
	case swapped:
		if x.Ok {
			j.load(glyph.Field(j.top, api.Val), read)
			return
		}
		// Another thread was faster; nothing is done yet.
		fallthrough
	case begun:
		j.protectTop()
	case looked:
		if j.top = x.Word; glyph.Nil(j.top) {
			j.end(api.Empty, 0)
			return
		}
		j.load(glyph.Field(j.top, api.Next), followed)
	case followed:
		j.swapTop(x.Word)
	case read:
		j.val = x.Word.Num
		j.ask(api.Call{Kind: api.CallRetire, Old: j.top}, retired)
	case retired:
		j.end(api.Yes, j.val)
	}
}

func (j *Job) peek(x api.Reply) {
	switch j.done {
	case begun:
		j.protectTop()
	case looked:
		if glyph.Nil(x.Word) {
			j.end(api.Empty, 0)
			return
		}
		j.load(glyph.Field(x.Word, api.Val), read)
	case read:
		j.end(api.Yes, x.Word.Num)
	}
}
