package pile

import (
	"slices"
	"testing"

	"sexton/api"
	"sexton/board"
	"sexton/glyph"
	"sexton/plot"
	"sexton/rite"
)

var engines = []int{api.Never, api.Hazard, api.Eras, api.Epochs, api.Interval}

// town is threads at work on one stack, and beside it what the stack should have.
type town struct {
	t      *testing.T
	p      *plot.Plot
	engine int
	hands  []*hand
	stack  []int // the top last
	pushed map[int]int
	popped map[int]int
}

// hand is one of the threads, with what it has to do.
type hand struct {
	*town
	r       *rite.Rite
	ops     []api.Op
	answers []api.Answer
	job     *Job
	leaves  bool
	glance
}

// glance is what an operation has met so far.
type glance struct {
	full  bool
	swaps int   // of the root, that took place
	seen  []int // what was on the stack when the root was loaded last, or swapped
}

func newTown(t *testing.T, engine, slots, notes int, ops ...[]api.Op) *town {
	t.Helper()
	w := &town{t: t, p: heap(t, slots), engine: engine, pushed: map[int]int{}, popped: map[int]int{}}
	put(t, w.p, board.Era(), glyph.Num(1))
	for me := range ops {
		r, err := rite.New(engine, me, len(ops), notes)
		if err != nil {
			t.Fatal(err)
		}
		w.hands = append(w.hands, &hand{town: w, r: r, ops: ops[me]})
	}
	return w
}

func (h *hand) begin(c api.Call) {
	if err := h.r.Begin(c); err != nil {
		h.t.Fatal(c, err)
	}
}

// ready goes on to the next access; false, if there is nothing to do any more.
func (h *hand) ready() bool {
	for !h.r.Busy() {
		switch {
		case h.job == nil:
			if len(h.ops) == 0 {
				return false
			}
			h.job = start(h.t, h.ops[0])
			h.begin(api.Call{Kind: api.CallEnter})
		case h.leaves:
			h.ops, h.job, h.leaves, h.glance = h.ops[1:], nil, false, glance{}
		default:
			c := h.job.Next(h.r.Reply())
			if c.Kind == api.CallDone {
				h.judge(c.Answer)
				h.leaves = true
				c = api.Call{Kind: api.CallLeave}
			}
			h.begin(c)
		}
	}
	return true
}

// step makes an access, if there is something to do.
func (h *hand) step() {
	if !h.ready() {
		return
	}
	a, _ := h.r.Next()
	x, err := h.p.Do(a)
	if err != nil || h.p.Fault() != nil {
		h.t.Fatalf("engine %d, step %d, %+v: %v, %v", h.engine, h.p.Steps(), a, err, h.p.Fault())
	}
	h.watch(a, x)
	if err := h.r.Took(x); err != nil {
		h.t.Fatal(err)
	}
}

// watch does to the stack beside what the access does to the one on the heap: all is done by the swaps of the root.
func (h *hand) watch(a api.Access, x api.Reply) {
	h.full = h.full || a.Kind == api.New && !x.Ok
	if h.job == nil || h.leaves || a.At != top {
		return
	}
	switch a.Kind {
	case api.Load:
		h.seen = slices.Clone(h.stack)
	case api.Swap:
		if !x.Ok {
			return
		}
		h.swaps++
		h.seen = slices.Clone(h.stack)
		if op := h.ops[0]; op.Kind == api.OpPush {
			h.stack = append(h.stack, op.Val)
			h.pushed[op.Val]++
		} else if last := len(h.stack) - 1; last >= 0 {
			h.stack = h.stack[:last]
		}
	}
}

// judge looks whether the answer is right, as the stack was when the operation met it.
func (h *hand) judge(a api.Answer) {
	op := h.ops[0]
	want, swaps := api.Answer{Code: api.Yes}, 1
	switch {
	case h.full:
		want.Code, swaps = api.Full, 0
	case op.Kind == api.OpPush:
	case len(h.seen) == 0:
		want.Code, swaps = api.Empty, 0
	default:
		want.Val = h.seen[len(h.seen)-1]
		if op.Kind == api.OpPeek {
			swaps = 0
		}
	}
	if a != want || h.swaps != swaps {
		h.t.Fatalf("engine %d, step %d: %+v came to %+v by %d swaps, not to %+v", h.engine, h.p.Steps(), op, a, h.swaps, want)
	}
	if op.Kind == api.OpPop && a.Code == api.Yes {
		h.popped[a.Val]++
	}
	h.answers = append(h.answers, a)
}

// finish lets one hand do all that it has to do, alone; it must come to an end, whoever else stands where.
func (h *hand) finish() {
	for range 200 * (1 + len(h.ops)) {
		if !h.ready() {
			return
		}
		h.step()
	}
	h.t.Fatalf("engine %d: no end of %+v", h.engine, h.ops)
}

// checkStack looks whether the stack on the heap has what it should.
func (w *town) checkStack() {
	vals, refs, err := Items(w.p)
	slices.Reverse(vals)
	if !slices.Equal(vals, w.stack) || len(refs) != len(vals) || err != nil {
		w.t.Fatalf("engine %d, step %d: %v, %v; not %v", w.engine, w.p.Steps(), vals, err, w.stack)
	}
}

// checkValues looks whether each value that was popped was pushed, once, and what was pushed and not popped is there, if nobody is at work.
func (w *town) checkValues() {
	vals, _, err := Items(w.p)
	if err != nil {
		w.t.Fatal(err)
	}
	there := map[int]int{}
	for _, val := range vals {
		there[val]++
	}
	for val, many := range w.popped {
		if w.pushed[val] < many {
			w.t.Fatalf("engine %d: %d was pushed %d times, popped %d times", w.engine, val, w.pushed[val], many)
		}
	}
	for val, many := range w.pushed {
		if there[val] != many-w.popped[val] {
			w.t.Fatalf("engine %d: %d was pushed %d times, popped %d times, is there %d times", w.engine, val, many, w.popped[val], there[val])
		}
	}
}

// checkSettled looks whether nothing is left when all have scanned three times, but what is on the stack.
func (w *town) checkSettled() {
	for range 3 {
		for _, h := range w.hands {
			h.begin(api.Call{Kind: api.CallScan})
			for h.r.Busy() {
				h.step()
			}
		}
	}
	notes := 0
	for _, h := range w.hands {
		notes += len(h.r.Notes())
	}
	if live := w.p.Live(); notes != 0 || live != len(w.stack) && w.engine != api.Never {
		w.t.Fatalf("engine %d: %d notes, %d slots are used, %d are on the stack", w.engine, notes, live, len(w.stack))
	}
}

// ops answers the operations of one thread: a number is pushed; -1 pops, -2 peeks.
func ops(of ...int) []api.Op {
	var all []api.Op
	for _, n := range of {
		switch n {
		case -1:
			all = append(all, api.Op{Kind: api.OpPop})
		case -2:
			all = append(all, api.Op{Kind: api.OpPeek})
		default:
			all = append(all, api.Op{Kind: api.OpPush, Val: n})
		}
	}
	return all
}
