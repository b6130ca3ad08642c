package rite

import (
	"iter"
	"math/rand/v2"
	"slices"
	"testing"

	"sexton/api"
	"sexton/board"
	"sexton/glyph"
	"sexton/plot"
)

// stacks is how many stacks stand in the first roots.
const stacks = 2

// town is threads at work on one heap, on stacks that stand in its roots, in any turns.
type town struct {
	t      *testing.T
	rand   *rand.Rand
	p      *plot.Plot
	engine int
	most   int
	hands  []*hand
	vals   map[api.Word]int // what was stored in each slot, in its generation
	failed bool
}

// hand is one of the threads.
type hand struct {
	*town
	r     *Rite
	yield func(bool) bool       // waits till it is picked; false, if it never is again
	held  [api.Hazards]api.Word // the slots that were reached by a protected load, each by its announcement
	all   map[api.Word]struct{} // all of these since it came in
	next  func() (bool, bool)   // picks it; false, if it is through
	stop  func()
}

// stalled ends a thread that is never picked again.
type stalled struct{}

func newTown(t *testing.T, engine int, seed uint64) *town {
	t.Helper()
	r := rand.New(rand.NewPCG(seed, 300+uint64(engine)))
	p, err := plot.New(3+r.IntN(20), board.Cells())
	if err != nil {
		t.Fatal(err)
	}
	w := &town{t: t, rand: r, p: p, engine: engine, most: 1 + r.IntN(4), vals: map[api.Word]int{}}
	if _, err := p.Do(api.Access{Kind: api.Store, At: board.Era(), New: glyph.Num(1)}); err != nil {
		t.Fatal(err)
	}
	threads := 2 + r.IntN(api.MaxThreads-1)
	for me := range threads {
		w.hands = append(w.hands, &hand{town: w, r: open(t, engine, me, threads, w.most), all: map[api.Word]struct{}{}})
	}
	return w
}

// fail ends the thread, and the run.
func (w *town) fail(what string, of any) {
	w.failed = true
	w.t.Errorf("engine %d, step %d: %s: %+v", w.engine, w.p.Steps(), what, of)
	panic(stalled{})
}

// keeps tells whether the hand keeps a slot that it reached.
func (h *hand) keeps(ref api.Word) bool {
	if h.engine == api.Hazard || h.engine == api.Eras {
		return slices.Contains(h.held[:], ref)
	}
	_, is := h.all[ref]
	return is
}

// call makes a call, access by access, each when the hand is picked.
func (h *hand) call(c api.Call) api.Reply {
	if err := h.r.Begin(c); err != nil {
		h.fail("Begin", err)
	}
	for h.r.Busy() {
		if h.yield != nil && !h.yield(true) {
			panic(stalled{})
		}
		a, _ := h.r.Next()
		if a.Kind == api.Free && c.Kind != api.CallDrop {
			for _, other := range h.hands {
				if other.keeps(a.Old) {
					h.fail("freed, but kept", a.Old)
				}
			}
		}
		x, err := h.p.Do(a)
		if err != nil {
			h.fail("Do", err)
		}
		if err := h.p.Fault(); err != nil {
			h.fail("fault", a)
		}
		if err := h.r.Took(x); err != nil {
			h.fail("Took", err)
		}
		if most := h.most + len(h.hands)*api.Hazards; h.engine == api.Hazard && len(h.r.Notes()) > most {
			h.fail("too many notes", h.r.Notes())
		}
	}
	return h.r.Reply()
}

func (h *hand) load(at api.Addr) api.Word {
	return h.call(api.Call{Kind: api.CallLoad, At: at}).Word
}

func (h *hand) swap(at api.Addr, old, new api.Word) bool {
	return h.call(api.Call{Kind: api.CallSwap, At: at, Old: old, New: new}).Ok
}

// protect loads a cell by an announcement; what is reached by it is kept only if got is called, too.
func (h *hand) protect(at api.Addr, i int) api.Word {
	h.held[i] = api.Word{}
	return h.call(api.Call{Kind: api.CallProtect, At: at, I: i}).Word
}

func (h *hand) got(i int, w api.Word) {
	if !glyph.Nil(w) {
		h.held[i] = glyph.Ref(w)
		h.all[glyph.Ref(w)] = struct{}{}
	}
}

// hold lets a later announcement keep what an earlier one does: a scan looks at them in this order.
func (h *hand) hold(i, j int) {
	h.held[i] = api.Word{}
	h.call(api.Call{Kind: api.CallHold, I: i, J: j})
	h.held[i] = h.held[j]
}

// look reads what is kept: it is still what it was.
func (h *hand) look() {
	for _, ref := range h.held {
		if !glyph.Nil(ref) {
			if got := h.load(glyph.Field(ref, api.Val)); got != glyph.Num(h.vals[ref]) {
				h.fail("another value", got)
			}
		}
	}
}

func (h *hand) leave() {
	h.held = [api.Hazards]api.Word{}
	clear(h.all)
	h.call(api.Call{Kind: api.CallLeave})
}

func (h *hand) push(root api.Addr) {
	x := h.call(api.Call{Kind: api.CallAlloc})
	if !x.Ok {
		return
	}
	node := x.Word
	h.vals[node] = len(h.vals)
	h.call(api.Call{Kind: api.CallStore, At: glyph.Field(node, api.Val), New: glyph.Num(h.vals[node])})
	for range 3 {
		top := h.load(root)
		h.call(api.Call{Kind: api.CallStore, At: glyph.Field(node, api.Next), New: glyph.Ref(top)})
		if h.swap(root, top, glyph.To(top, node)) {
			return
		}
	}
	h.call(api.Call{Kind: api.CallDrop, Old: node})
}

func (h *hand) pop(root api.Addr) {
	i := h.rand.IntN(3)
	top := h.protect(root, i)
	if glyph.Nil(top) {
		return
	}
	h.got(i, top)
	next := h.load(glyph.Field(top, api.Next))
	if !h.swap(root, top, glyph.To(top, next)) {
		return
	}
	h.call(api.Call{Kind: api.CallRetire, Old: top})
	if h.rand.IntN(2) == 0 {
		h.look()
	}
}

// walk reaches the first three slots of a stack, as long as the first one is the first one.
func (h *hand) walk(root api.Addr) {
	top := h.protect(root, 0)
	if glyph.Nil(top) {
		return
	}
	h.got(0, top)
	at := top
	for _, to := range []int{3, 4} {
		below := h.protect(glyph.Field(at, api.Next), 1)
		if !glyph.Same(h.load(root), top) || glyph.Nil(below) {
			return
		}
		h.got(1, below)
		h.hold(to, 1)
		h.look()
		at = below
	}
}

// visit comes in, does some things, and leaves.
func (h *hand) visit() {
	h.call(api.Call{Kind: api.CallEnter})
	for range 1 + h.rand.IntN(4) {
		root := api.Addr{Field: h.rand.IntN(stacks)}
		switch h.rand.IntN(8) {
		case 0, 1, 2:
			h.push(root)
		case 3, 4:
			h.pop(root)
		case 5:
			h.walk(root)
		case 6:
			h.hold(5+h.rand.IntN(4), h.rand.IntN(5))
			h.look()
		case 7:
			h.call(api.Call{Kind: api.CallScan})
		}
	}
	h.look()
	h.leave()
}

// calmly runs f till it ends, or the thread is stalled.
func calmly(f func()) {
	defer func() {
		if x := recover(); x != nil && x != any(stalled{}) {
			panic(x)
		}
	}()
	f()
}

// run lets all hands work, in any turns; stall of them are not picked any more from somewhere on.
func (w *town) run(stall int) {
	for _, h := range w.hands {
		h.next, h.stop = iter.Pull(func(yield func(bool) bool) {
			h.yield = yield
			calmly(func() {
				for range 10 {
					h.visit()
				}
			})
			h.yield = nil
		})
		defer h.stop()
	}
	picked := slices.Clone(w.hands)
	for turns := 0; len(picked) > 0 && !w.failed; turns++ {
		if turns > 20 && stall > 0 && w.rand.IntN(10) == 0 {
			picked, stall = picked[1:], stall-1
			continue
		}
		i := w.rand.IntN(len(picked))
		for range 1 + w.rand.IntN(1+w.rand.IntN(30)) {
			if _, ok := picked[i].next(); !ok {
				picked = slices.Delete(picked, i, i+1)
				break
			}
		}
	}
}

// reach is how many slots the stacks have.
func (w *town) reach() int {
	many := 0
	for root := range stacks {
		top, _ := w.p.Peek(api.Addr{Field: root})
		for ; !glyph.Nil(top); many++ {
			top, _ = w.p.Peek(glyph.Field(top, api.Next))
		}
	}
	return many
}

// P6.3: what one keeps nobody frees, whoever is stalled where: each slot that was reached is there, and is what it was. P6.4, too, at each step.
func TestKeptIsNotFreed(t *testing.T) {
	for _, engine := range engines {
		all, spared := 0, 0
		for seed := range uint64(400) {
			w := newTown(t, engine, seed)
			w.run(int(seed % 3))
			if t.Failed() {
				t.Fatalf("seed %d", seed)
			}
			for _, h := range w.hands {
				all += h.r.Freed()
				spared += len(h.r.Notes())
			}
		}
		if never := engine == api.Never; never != (all == 0) || never != (spared == 0) {
			t.Errorf("engine %d: %d slots were freed, %d not", engine, all, spared)
		}
	}
}

// P6.3: nothing is kept for nothing: when all have left, and scanned three times, nothing is noted, and what isn't reached is free.
func TestNothingIsLeft(t *testing.T) {
	for _, engine := range engines {
		for seed := range uint64(50) {
			w := newTown(t, engine, 1000+seed)
			w.run(0)
			for range 3 {
				for _, h := range w.hands {
					calmly(func() { h.call(api.Call{Kind: api.CallScan}) })
				}
			}
			notes := 0
			for _, h := range w.hands {
				notes += len(h.r.Notes())
			}
			if t.Failed() || notes > 0 || engine != api.Never && w.reach() != w.p.Live() {
				t.Fatalf("engine %d, seed %d: %d notes, %d slots are reached, %d used", engine, seed, notes, w.reach(), w.p.Live())
			}
		}
	}
}
