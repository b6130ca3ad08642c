package rite

import (
	"errors"
	"math"
	"math/rand/v2"
	"slices"
	"testing"

	"sexton/api"
	"sexton/plot"
	"sexton/sieve"
)

// told does calls as the chapter's table tells them, from the first access to the last one; each is asked for from the rite.
type told struct {
	t                         *testing.T
	r                         *Rite
	answer                    func(api.Access) api.Reply
	engine, me, threads, most int
	kept                      [api.Hazards]api.Word
	span                      api.Span
	notes                     []api.Note
	freed                     int
	last                      api.Reply
}

// call makes a call from its beginning to its end.
func (m *told) call(c api.Call) {
	m.t.Helper()
	begin(m.t, m.r, c)
	m.last = m.run(c)
	m.look(false)
	over(m.t, m.r, m.last)
}

// look holds what can be told of the rite against what it should be.
func (m *told) look(busy bool) {
	m.t.Helper()
	if m.r.Busy() != busy || m.r.Reply() != m.last || !slices.Equal(m.r.Notes(), m.notes) || m.r.Freed() != m.freed {
		m.t.Fatalf("busy %t, reply %+v, notes %v, freed %d; not %t, %+v, %v, %d",
			m.r.Busy(), m.r.Reply(), m.r.Notes(), m.r.Freed(), busy, m.last, m.notes, m.freed)
	}
}

func (m *told) do(a api.Access) api.Reply {
	m.t.Helper()
	m.look(true)
	if err := m.r.Begin(api.Call{Kind: api.CallScan}); !errors.Is(err, api.ErrState) {
		m.t.Fatal(err)
	}
	x := m.answer(a)
	step(m.t, m.r, a, x)
	return x
}

func (m *told) load(at api.Addr) api.Word {
	m.t.Helper()
	return m.do(api.Access{Kind: api.Load, At: at}).Word
}

func (m *told) clock() api.Word {
	m.t.Helper()
	return m.load(api.Addr{Field: 24})
}

func (m *told) keep(n int, w api.Word) {
	m.t.Helper()
	m.do(store(25+9*m.me+n, w))
	m.kept[n] = w
}

func (m *told) keepSpan(is bool, low, high int) {
	m.t.Helper()
	w := api.Word{}
	if is {
		w = span(low, high)
	}
	m.do(store(79+m.me, w))
	m.span = api.Span{Is: is, Low: low, High: high}
}

func (m *told) by(engines ...int) bool { return slices.Contains(engines, m.engine) }

func (m *told) run(c api.Call) api.Reply {
	m.t.Helper()
	switch c.Kind {
	case api.CallEnter:
		if m.by(api.Epochs, api.Interval) {
			n := m.clock().Num
			m.keepSpan(true, n, n)
		}
	case api.CallLeave:
		for n := range m.kept {
			if m.kept[n] != (api.Word{}) {
				m.keep(n, api.Word{})
			}
		}
		if m.span != (api.Span{}) {
			m.keepSpan(false, 0, 0)
		}
	case api.CallLoad, api.CallStore, api.CallSwap:
		kinds := map[int]int{api.CallLoad: api.Load, api.CallStore: api.Store, api.CallSwap: api.Swap}
		return m.do(api.Access{Kind: kinds[c.Kind], At: c.At, Old: c.Old, New: c.New})
	case api.CallProtect:
		return api.Reply{Word: m.protect(c.At, c.I), Ok: true}
	case api.CallHold:
		if m.by(api.Hazard, api.Eras) && m.kept[c.I] != m.kept[c.J] {
			m.keep(c.I, m.kept[c.J])
		}
	case api.CallAlloc:
		born := 0
		if m.by(api.Eras, api.Interval) {
			born = m.clock().Num
		}
		return m.do(api.Access{Kind: api.New, New: api.Word{Num: born}})
	case api.CallDrop:
		m.do(api.Access{Kind: api.Free, Old: c.Old})
	case api.CallRetire:
		m.retire(c.Old)
	case api.CallScan:
		m.scan()
	}
	return fine
}

func (m *told) protect(at api.Addr, i int) api.Word {
	m.t.Helper()
	for {
		w := m.load(at)
		ref := api.Word{Slot: w.Slot, Gen: w.Gen}
		switch m.engine {
		case api.Never, api.Epochs:
			return w
		case api.Hazard:
			if w.Slot == 0 || m.kept[i] == ref {
				return w
			}
			m.keep(i, ref)
		case api.Eras:
			n := m.clock().Num
			if m.kept[i] != (api.Word{}) && m.kept[i].Num == n {
				return w
			}
			m.keep(i, api.Word{Num: n})
		case api.Interval:
			n := m.clock().Num
			if m.span.Is && m.span.High == n {
				return w
			}
			low := n
			if m.span.Is {
				low = m.span.Low
			}
			m.keepSpan(true, low, n)
		}
	}
}

func (m *told) turn(w api.Word) {
	m.t.Helper()
	m.do(swapClock(w, w.Num+1))
}

func (m *told) retire(old api.Word) {
	m.t.Helper()
	n := api.Note{Ref: api.Word{Slot: old.Slot, Gen: old.Gen}}
	switch m.engine {
	case api.Never:
		return
	case api.Hazard:
		m.notes = append(m.notes, n)
	case api.Epochs:
		n.Death = m.clock().Num
		m.notes = append(m.notes, n)
	default:
		n.Birth = m.load(api.Addr{Slot: old.Slot, Gen: old.Gen, Field: 9}).Num
		w := m.clock()
		n.Death = w.Num
		m.notes = append(m.notes, n)
		m.turn(w)
	}
	if len(m.notes) >= m.most {
		m.scan()
	}
}

func (m *told) scan() {
	m.t.Helper()
	var words []api.Word
	var eras []int
	var spans []api.Span
	hear := func(cell int) {
		m.t.Helper()
		w := m.load(api.Addr{Field: cell})
		words, eras = append(words, w), append(eras, w.Num)
		if w.Mark {
			spans = append(spans, api.Span{Is: true, Low: w.Num, High: w.Tag})
		}
	}
	var clock api.Word
	if m.engine == api.Epochs {
		clock = m.clock()
	}
	for u := range m.threads {
		for n := range api.Hazards {
			if m.by(api.Hazard, api.Eras) {
				hear(25 + 9*u + n)
			}
		}
		if m.by(api.Epochs, api.Interval) {
			hear(79 + u)
		}
	}
	var free []api.Note
	switch m.engine {
	case api.Hazard:
		free, _ = sieve.Slots(m.notes, words...)
	case api.Eras:
		free, _ = sieve.Eras(m.notes, eras...)
	case api.Interval:
		free, _ = sieve.Spans(m.notes, spans...)
	case api.Epochs:
		if sieve.May(clock.Num, spans...) {
			m.turn(clock)
		}
		free, _ = sieve.Epochs(m.notes, m.clock().Num)
	}
	m.release(free)
}

// release frees slots one by one; each that was freed is noted no more.
func (m *told) release(free []api.Note) {
	m.t.Helper()
	all := slices.Clone(m.notes)
	isFreed := make([]bool, len(all))
	i := 0
	for _, n := range free {
		for all[i] != n {
			i++
		}
		isFreed[i] = m.do(api.Access{Kind: api.Free, Old: n.Ref}).Ok
		i++
		m.notes, m.freed = nil, m.freed+1
		if !isFreed[i-1] {
			m.freed--
		}
		for k, x := range all {
			if !isFreed[k] {
				m.notes = append(m.notes, x)
			}
		}
	}
}

// anyCall draws a call that can be.
func anyCall(r *rand.Rand, w func() api.Word) api.Call {
	at := w()
	c := api.Call{Kind: 1 + r.IntN(11), At: api.Addr{Slot: at.Slot, Gen: at.Gen, Field: r.IntN(api.Fields)}, Old: w(), New: w()}
	c.I, c.J = r.IntN(3), r.IntN(3)
	if r.IntN(4) == 0 {
		c.I, c.J = r.IntN(api.Hazards), r.IntN(api.Hazards)
	}
	return c
}

// anyTold draws a rite that has done nothing yet.
func anyTold(t *testing.T, r *rand.Rand, engine int, answer func(api.Access) api.Reply) *told {
	m := &told{t: t, engine: engine, threads: 1 + r.IntN(api.MaxThreads), most: 1 + r.IntN(5), answer: answer}
	m.me = r.IntN(m.threads)
	m.r = open(t, engine, m.me, m.threads, m.most)
	return m
}

// P6.2: whatever is answered, each engine makes the accesses that the chapter tells, and comes to the replies that it tells.
func TestAsTold(t *testing.T) {
	for _, engine := range engines {
		for seed := range uint64(150) {
			r := rand.New(rand.NewPCG(seed, uint64(engine)))
			w := func() api.Word {
				return api.Word{Slot: r.IntN(4), Gen: r.IntN(2), Tag: r.IntN(5), Num: r.IntN(5), Mark: r.IntN(2) == 0}
			}
			m := anyTold(t, r, engine, func(api.Access) api.Reply { return api.Reply{Word: w(), Ok: r.IntN(5) > 0} })
			for range 60 {
				m.call(anyCall(r, w))
			}
		}
	}
}

// P6.2, rule 6: numbers of all kinds are handed on by the same rules.
func TestAsToldFar(t *testing.T) {
	ends := []int{math.MinInt, math.MinInt + 1, -1 << 40, -1, 0, 1, 1 << 40, 1<<40 + 1, math.MaxInt - 1, math.MaxInt}
	for _, engine := range engines {
		for seed := range uint64(60) {
			r := rand.New(rand.NewPCG(seed, 100+uint64(engine)))
			far := func() int { return ends[r.IntN(len(ends))] }
			// Few words of each draw, so that what is seen comes again.
			some := make([]api.Word, 4)
			for i := range some {
				some[i] = api.Word{Slot: far(), Gen: far(), Tag: far(), Num: far(), Mark: r.IntN(2) == 0}
			}
			some[0].Num = 1
			w := func() api.Word { return some[r.IntN(len(some))] }
			m := anyTold(t, r, engine, func(api.Access) api.Reply { return api.Reply{Word: w(), Ok: r.IntN(5) > 0} })
			for range 60 {
				m.call(anyCall(r, w))
			}
		}
	}
}

// P6.2: the same on a heap, with what other threads have announced there.
func TestAsToldOnAHeap(t *testing.T) {
	for _, engine := range engines {
		for seed := range uint64(60) {
			r := rand.New(rand.NewPCG(seed, 200+uint64(engine)))
			p, err := plot.New(6, 85)
			if err != nil {
				t.Fatal(err)
			}
			do := func(a api.Access) api.Reply {
				x, err := p.Do(a)
				if err != nil {
					t.Fatal(a, err)
				}
				return x
			}
			do(store(24, api.Word{Num: 1}))
			w := func() api.Word {
				if used := p.Used(); len(used) > 0 && r.IntN(8) > 0 {
					return used[r.IntN(len(used))]
				}
				return api.Word{Slot: 1 + r.IntN(6), Gen: 1 + r.IntN(2)}
			}
			ms := make([]*told, 3)
			for i := range ms {
				ms[i] = &told{t: t, r: open(t, engine, i, 3, 1+i), engine: engine, me: i, threads: 3, most: 1 + i, answer: do}
			}
			for range 200 {
				c := anyCall(r, w)
				if c.Kind == api.CallStore || c.Kind == api.CallSwap || c.Kind == api.CallProtect {
					c.At = api.Addr{Field: r.IntN(3)}
				}
				ms[r.IntN(3)].call(c)
			}
		}
	}
}
