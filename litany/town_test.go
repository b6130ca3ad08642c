package litany

import (
	"cmp"
	"slices"
	"testing"

	"sexton/api"
	"sexton/board"
	"sexton/glyph"
	"sexton/plot"
	"sexton/rite"
)

var engines = []int{api.Never, api.Hazard, api.Eras, api.Epochs, api.Interval}

// town is threads at work on one list, and beside it what the list should have.
type town struct {
	t       *testing.T
	p       *plot.Plot
	engine  int
	first   api.Addr // the cell ahead of the list
	more    int      // by how much the list's keys are above the operations'
	others  int      // how many slots there are beside the list's
	hands   []*hand
	list    []api.Pair // by rising keys
	puts    map[int]int
	takes   map[int]int
	vals    map[api.Pair]bool // what was inserted
	retired map[api.Word]bool
}

// hand is one of the threads, with what it has to do.
type hand struct {
	*town
	r       *rite.Rite
	ops     []api.Op
	answers []api.Answer
	job     *Job
	began   bool // whether its operation makes calls already
	leaves  bool
	glance
}

// glance is what an operation has met so far.
type glance struct {
	full   bool
	node   api.Word
	real   int   // how often it changed what the list has
	val    int   // what it took
	absent bool  // whether its key was not there at some time
	there  []int // the values that its key had, one behind the other
}

// newTown answers one whose list has a root of its own.
func newTown(t *testing.T, engine, slots, notes int, ops ...[]api.Op) *town {
	t.Helper()
	w := &town{t: t, p: heap(t, slots), engine: engine, puts: map[int]int{}, takes: map[int]int{}, vals: map[api.Pair]bool{}, retired: map[api.Word]bool{}}
	put(t, w.p, board.Era(), glyph.Num(1))
	for me := range ops {
		r, err := rite.New(engine, me, len(ops), notes)
		if err != nil {
			t.Fatal(err)
		}
		w.hands = append(w.hands, &hand{town: w, r: r, ops: ops[me]})
	}
	return w
}

// newTownBehind answers one whose list stands behind a slot that is never taken out, with keys of its own.
func newTownBehind(t *testing.T, engine, slots, notes int, ops ...[]api.Op) *town {
	t.Helper()
	w := newTown(t, engine, slots+1, notes, ops...)
	sentinel := do(t, w.p, api.Access{Kind: api.New}).Word
	w.first, w.more, w.others = cell(sentinel, 2), 300, 1
	return w
}

func (h *hand) begin(c api.Call) {
	if err := h.r.Begin(c); err != nil {
		h.t.Fatal(c, err)
	}
}

// ready goes on to the next access; false, if there is nothing to do any more.
func (h *hand) ready() bool {
	for !h.r.Busy() {
		switch {
		case h.job == nil:
			if len(h.ops) == 0 {
				return false
			}
			h.job = h.jobOf(h.ops[0])
			h.begin(api.Call{Kind: api.CallEnter})
		case h.leaves:
			h.ops, h.job, h.began, h.leaves, h.glance = h.ops[1:], nil, false, false, glance{}
		default:
			h.goOn()
		}
	}
	return true
}

func (h *hand) jobOf(op api.Op) *Job {
	if h.first == root {
		return start(h.t, op)
	}
	return From(h.first, op.Key+h.more, op)
}

// goOn asks for the next call.
func (h *hand) goOn() {
	c := h.job.Next(h.r.Reply())
	h.began = true
	switch c.Kind {
	case api.CallDone:
		h.judge(c.Answer)
		h.leaves = true
		c = api.Call{Kind: api.CallLeave}
	case api.CallRetire:
		h.checkRetired(glyph.Ref(c.Old))
	}
	h.begin(c)
}

// checkRetired looks whether a slot is retired once, and can't be reached.
func (w *town) checkRetired(ref api.Word) {
	_, refs, err := Items(w.p, w.first)
	if w.retired[ref] || slices.Contains(refs, ref) || err != nil {
		w.t.Fatalf("engine %d, step %d: %v is retired, of %v, %v", w.engine, w.p.Steps(), ref, refs, err)
	}
	w.retired[ref] = true
}

// busy tells whether an operation is on its way, from its first call to its answer.
func (h *hand) busy() bool { return h.began && !h.leaves }

// step makes an access, if there is something to do.
func (h *hand) step() {
	if !h.ready() {
		return
	}
	a, _ := h.r.Next()
	x, err := h.p.Do(a)
	if err != nil || h.p.Fault() != nil {
		h.t.Fatalf("engine %d, step %d, %+v: %v, %v", h.engine, h.p.Steps(), a, err, h.p.Fault())
	}
	if h.busy() {
		h.see()
		h.watch(a, x)
	}
	if err := h.r.Took(x); err != nil {
		h.t.Fatal(err)
	}
	// What comes behind its last access is nothing to it, so it is judged ahead of that.
	for h.busy() && !h.r.Busy() {
		h.goOn()
	}
}

// see notes what the list has of the operation's key.
func (h *hand) see() {
	at, ok := h.find(h.ops[0].Key)
	switch {
	case !ok:
		h.absent = true
	case len(h.there) == 0 || h.there[len(h.there)-1] != h.list[at].Val:
		h.there = append(h.there, h.list[at].Val)
	}
}

func (w *town) find(key int) (int, bool) {
	return slices.BinarySearchFunc(w.list, key+w.more, func(x api.Pair, key int) int { return cmp.Compare(x.Key, key) })
}

// watch does to the list beside what the access does to the one on the heap: all is done by the swaps that link a node, and those that mark one.
func (h *hand) watch(a api.Access, x api.Reply) {
	op := h.ops[0]
	switch {
	case a.Kind == api.New:
		h.node, h.full = x.Word, !x.Ok
		return
	case a.Kind != api.Swap || !x.Ok:
		return
	case op.Kind == api.OpInsert && h.node.Slot != 0 && glyph.Ref(a.New) == h.node:
		h.insert(op)
	case a.New.Mark:
		h.delete(op, a.At)
	default:
		return
	}
	h.real++
	for _, other := range h.hands {
		if other.busy() {
			other.see()
		}
	}
}

func (h *hand) insert(op api.Op) {
	at, ok := h.find(op.Key)
	if ok {
		h.t.Fatalf("engine %d, step %d: %d is inserted where it is already", h.engine, h.p.Steps(), op.Key)
	}
	x := api.Pair{Key: op.Key + h.more, Val: op.Val}
	h.list = slices.Insert(h.list, at, x)
	h.vals[x] = true
}

func (h *hand) delete(op api.Op, of api.Addr) {
	at, ok := h.find(op.Key)
	of.Field = api.Key
	if key, _ := h.p.Peek(of); !ok || op.Kind != api.OpDelete || key.Num != op.Key+h.more {
		h.t.Fatalf("engine %d, step %d: %+v marks %d", h.engine, h.p.Steps(), op, key.Num)
	}
	h.val = h.list[at].Val
	h.list = slices.Delete(h.list, at, at+1)
}

// judge looks whether the answer is right, as the list was while the operation was on its way.
func (h *hand) judge(a api.Answer) {
	op := h.ops[0]
	want, real, seen := api.Answer{Code: a.Code}, 0, true
	switch {
	case h.full:
		want.Code = api.Full
	case a.Code == api.Yes && op.Kind == api.OpGet:
		want.Val, seen = a.Val, slices.Contains(h.there, a.Val)
	case a.Code == api.Yes:
		want.Val, real = h.val, 1
	case op.Kind == api.OpInsert:
		want.Code, seen = api.Had, len(h.there) > 0
	default:
		want.Code, seen = api.Empty, h.absent
	}
	if a != want || h.real != real || !seen {
		h.t.Fatalf("engine %d, step %d: %+v came to %+v by %d changes, not to %+v by %d, as it was %v or not (%v)", h.engine, h.p.Steps(), op, a, h.real, want, real, h.there, h.absent)
	}
	if a.Code == api.Yes && op.Kind == api.OpInsert {
		h.puts[op.Key+h.more]++
	}
	if a.Code == api.Yes && op.Kind == api.OpDelete {
		h.takes[op.Key+h.more]++
	}
	h.answers = append(h.answers, a)
}

// finish lets one hand do all that it has to do, alone; it must come to an end, whoever else stands where.
func (h *hand) finish() {
	for range 2000 * (1 + len(h.ops)) {
		if !h.ready() {
			return
		}
		h.step()
	}
	h.t.Fatalf("engine %d: no end of %+v", h.engine, h.ops)
}

// checkList looks whether the list on the heap has what it should, and the keys of all its slots rise.
func (w *town) checkList() {
	pairs, refs, err := Items(w.p, w.first)
	if !slices.Equal(pairs, w.list) || err != nil {
		w.t.Fatalf("engine %d, step %d: %v, %v, %v; not %v", w.engine, w.p.Steps(), pairs, refs, err, w.list)
	}
	last := w.more - 1
	for _, ref := range refs {
		key, _ := w.p.Peek(cell(ref, api.Key))
		if key.Num <= last {
			w.t.Fatalf("engine %d, step %d: %d comes behind %d", w.engine, w.p.Steps(), key.Num, last)
		}
		last = key.Num
	}
}

// checkKeys looks whether of each key as many insertions were answered Yes as deletions, or one more, and then it is there, with a value that was inserted, if nobody is at work.
func (w *town) checkKeys() {
	pairs, refs, err := Items(w.p, w.first)
	if err != nil || len(refs) != len(pairs) {
		w.t.Fatal(pairs, refs, err)
	}
	for _, x := range pairs {
		if w.takes[x.Key]++; !w.vals[x] {
			w.t.Fatalf("engine %d: %v was never inserted", w.engine, x)
		}
	}
	for key, many := range w.takes {
		if w.puts[key] != many {
			w.t.Fatalf("engine %d: %d was inserted %d times, deleted or there %d times", w.engine, key, w.puts[key], many)
		}
	}
	for key, many := range w.puts {
		if w.takes[key] != many {
			w.t.Fatalf("engine %d: %d was inserted %d times, deleted or there %d times", w.engine, key, many, w.takes[key])
		}
	}
	for _, x := range pairs {
		w.takes[x.Key]--
	}
}

// checkSettled looks whether nothing is left when all have scanned three times, but what is in the list.
func (w *town) checkSettled() {
	for range 3 {
		for _, h := range w.hands {
			h.begin(api.Call{Kind: api.CallScan})
			for h.r.Busy() {
				h.step()
			}
		}
	}
	notes := 0
	for _, h := range w.hands {
		notes += len(h.r.Notes())
	}
	if live := w.p.Live(); notes != 0 || live != len(w.list)+w.others && w.engine != api.Never {
		w.t.Fatalf("engine %d: %d notes, %d slots are used, %d keys are in the list", w.engine, notes, live, len(w.list))
	}
}
