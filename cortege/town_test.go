package cortege

import (
	"slices"
	"testing"

	"sexton/api"
	"sexton/board"
	"sexton/glyph"
	"sexton/plot"
	"sexton/rite"
)

var engines = []int{api.Never, api.Hazard, api.Eras, api.Epochs, api.Interval}

// town is threads at work on one queue, and beside it what the queue should have.
type town struct {
	t        *testing.T
	p        *plot.Plot
	engine   int
	hands    []*hand
	queue    []int // the eldest first
	enqueued map[int]int
	dequeued map[int]int
}

// hand is one of the threads, with what it has to do.
type hand struct {
	*town
	r       *rite.Rite
	ops     []api.Op
	answers []api.Answer
	got     []int // what it dequeued, one behind the other
	job     *Job
	leaves  bool
	glance
}

// glance is what an operation has met so far.
type glance struct {
	full  bool
	real  int  // how often it changed what the queue has
	val   int  // what it took
	empty bool // whether there was nothing when it looked behind the head's slot last
}

func newTown(t *testing.T, engine, slots, notes int, ops ...[]api.Op) *town {
	t.Helper()
	w := &town{t: t, p: heap(t, slots), engine: engine, enqueued: map[int]int{}, dequeued: map[int]int{}}
	put(t, w.p, board.Era(), glyph.Num(1))
	if err := Lay(w.p); err != nil {
		t.Fatal(err)
	}
	for me := range ops {
		r, err := rite.New(engine, me, len(ops), notes)
		if err != nil {
			t.Fatal(err)
		}
		w.hands = append(w.hands, &hand{town: w, r: r, ops: ops[me]})
	}
	return w
}

func (h *hand) begin(c api.Call) {
	if err := h.r.Begin(c); err != nil {
		h.t.Fatal(c, err)
	}
}

// ready goes on to the next access; false, if there is nothing to do any more.
func (h *hand) ready() bool {
	for !h.r.Busy() {
		switch {
		case h.job == nil:
			if len(h.ops) == 0 {
				return false
			}
			h.job = start(h.t, h.ops[0])
			h.begin(api.Call{Kind: api.CallEnter})
		case h.leaves:
			h.ops, h.job, h.leaves, h.glance = h.ops[1:], nil, false, glance{}
		default:
			c := h.job.Next(h.r.Reply())
			if c.Kind == api.CallDone {
				h.judge(c.Answer)
				h.leaves = true
				c = api.Call{Kind: api.CallLeave}
			}
			h.begin(c)
		}
	}
	return true
}

// step makes an access, if there is something to do.
func (h *hand) step() {
	if !h.ready() {
		return
	}
	a, _ := h.r.Next()
	x, err := h.p.Do(a)
	if err != nil || h.p.Fault() != nil {
		h.t.Fatalf("engine %d, step %d, %+v: %v, %v", h.engine, h.p.Steps(), a, err, h.p.Fault())
	}
	if h.job != nil && !h.leaves {
		h.watch(a, x)
	}
	if err := h.r.Took(x); err != nil {
		h.t.Fatal(err)
	}
}

// watch does to the queue beside what the access does to the one on the heap: all is done by the swaps of the last Next, and of the head.
func (h *hand) watch(a api.Access, x api.Reply) {
	op := h.ops[0]
	h.full = h.full || a.Kind == api.New && !x.Ok
	switch {
	case op.Kind == api.OpEnqueue && a.Kind == api.Swap && a.At.Slot != 0 && x.Ok:
		h.real++
		h.queue = append(h.queue, op.Val)
		h.enqueued[op.Val]++
	case op.Kind == api.OpDequeue && a.Kind == api.Load && a.At.Slot != 0 && a.At.Field == api.Next:
		h.empty = len(h.queue) == 0
	case op.Kind == api.OpDequeue && a.Kind == api.Swap && a.At == headAt && x.Ok:
		if len(h.queue) == 0 {
			h.t.Fatalf("engine %d, step %d: the head goes on to nothing", h.engine, h.p.Steps())
		}
		h.real++
		h.val, h.queue = h.queue[0], h.queue[1:]
	}
}

// judge looks whether the answer is right, as the queue was when the operation met it.
func (h *hand) judge(a api.Answer) {
	op := h.ops[0]
	want, real := api.Answer{Code: api.Yes, Val: h.val}, 1
	switch {
	case h.full:
		want.Code, real = api.Full, 0
	case op.Kind == api.OpDequeue && h.empty:
		want.Code, real = api.Empty, 0
	}
	if a != want || h.real != real {
		h.t.Fatalf("engine %d, step %d: %+v came to %+v by %d changes, not to %+v", h.engine, h.p.Steps(), op, a, h.real, want)
	}
	if op.Kind == api.OpDequeue && a.Code == api.Yes {
		h.dequeued[a.Val]++
		h.got = append(h.got, a.Val)
	}
	h.answers = append(h.answers, a)
}

// finish lets one hand do all that it has to do, alone; it must come to an end, whoever else stands where.
func (h *hand) finish() {
	for range 200 * (1 + len(h.ops)) {
		if !h.ready() {
			return
		}
		h.step()
	}
	h.t.Fatalf("engine %d: no end of %+v", h.engine, h.ops)
}

// checkQueue looks whether the queue on the heap has what it should, and the tail is the last slot, or one ahead of it.
func (w *town) checkQueue() {
	vals, refs, err := Items(w.p)
	if !slices.Equal(vals, w.queue) || len(refs) != len(vals)+1 || err != nil {
		w.t.Fatalf("engine %d, step %d: %v, %v, %v; not %v", w.engine, w.p.Steps(), vals, refs, err, w.queue)
	}
	tail, _ := w.p.Peek(tailAt)
	if behind := slices.Index(refs, glyph.Ref(tail)); behind < 0 || behind < len(refs)-2 {
		w.t.Fatalf("engine %d, step %d: the tail is %v of %v", w.engine, w.p.Steps(), tail, refs)
	}
}

// checkValues looks whether each value that was dequeued was enqueued, once, and what was enqueued and not dequeued is there, if nobody is at work.
func (w *town) checkValues() {
	vals, _, err := Items(w.p)
	if err != nil {
		w.t.Fatal(err)
	}
	there := map[int]int{}
	for _, val := range vals {
		there[val]++
	}
	for val, many := range w.dequeued {
		if w.enqueued[val] < many {
			w.t.Fatalf("engine %d: %d was enqueued %d times, dequeued %d times", w.engine, val, w.enqueued[val], many)
		}
	}
	for val, many := range w.enqueued {
		if there[val] != many-w.dequeued[val] {
			w.t.Fatalf("engine %d: %d was enqueued %d times, dequeued %d times, is there %d times", w.engine, val, many, w.dequeued[val], there[val])
		}
	}
}

// checkOrder looks whether to each thread that dequeues comes what one thread enqueued in that order, where a value's hundreds tell who did, and it is above those ahead of it.
func (w *town) checkOrder() {
	for _, h := range w.hands {
		last := map[int]int{}
		for _, val := range h.got {
			if last[val/100] >= val {
				w.t.Fatalf("engine %d: %d comes behind %d in %v", w.engine, val, last[val/100], h.got)
			}
			last[val/100] = val
		}
	}
}

// checkSettled looks whether nothing is left when all have scanned three times, but what is in the queue, and the sentinel.
func (w *town) checkSettled() {
	for range 3 {
		for _, h := range w.hands {
			h.begin(api.Call{Kind: api.CallScan})
			for h.r.Busy() {
				h.step()
			}
		}
	}
	notes := 0
	for _, h := range w.hands {
		notes += len(h.r.Notes())
	}
	if live := w.p.Live(); notes != 0 || live != len(w.queue)+1 && w.engine != api.Never {
		w.t.Fatalf("engine %d: %d notes, %d slots are used, %d values are in the queue", w.engine, notes, live, len(w.queue))
	}
}

// ops answers the operations of one thread: a number is enqueued; -1 dequeues.
func ops(of ...int) []api.Op {
	var all []api.Op
	for _, n := range of {
		if n == -1 {
			all = append(all, api.Op{Kind: api.OpDequeue})
		} else {
			all = append(all, api.Op{Kind: api.OpEnqueue, Val: n})
		}
	}
	return all
}
