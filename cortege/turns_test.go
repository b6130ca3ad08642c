package cortege

import (
	"math/rand/v2"
	"slices"
	"testing"

	"sexton/api"
	"sexton/glyph"
)

// P8.3: the example.
func TestOneAlone(t *testing.T) {
	for _, engine := range engines {
		w := newTown(t, engine, 3, 1, ops(1, 2, -1, -1, -1))
		w.hands[0].finish()
		want := []api.Answer{{Code: api.Yes}, {Code: api.Yes}, {Code: api.Yes, Val: 1}, {Code: api.Yes, Val: 2}, {Code: api.Empty}}
		if !slices.Equal(w.hands[0].answers, want) {
			t.Errorf("engine %d: %v", engine, w.hands[0].answers)
		}
		w.checkQueue()
		w.checkSettled()
	}
}

// P8.3, P8.1: without room nothing is changed; with a slot that was freed there is room again.
func TestOneAloneWithoutRoom(t *testing.T) {
	for _, engine := range engines {
		w := newTown(t, engine, 3, 1, ops(5, 6, 7, -1, -1, -1, 8))
		w.hands[0].finish()
		want := []api.Answer{{Code: api.Yes}, {Code: api.Yes}, {Code: api.Full}, {Code: api.Yes, Val: 5}, {Code: api.Yes, Val: 6}, {Code: api.Empty}, {Code: api.Yes}}
		if engine == api.Never {
			want[6].Code = api.Full
		}
		got := w.hands[0].answers
		// By eras and epochs a slot may come back later than when it is wanted.
		if engine > api.Hazard {
			got, want = got[:6], want[:6]
		}
		if !slices.Equal(got, want) {
			t.Errorf("engine %d: %v", engine, got)
		}
		w.checkQueue()
		w.checkSettled()
	}
}

// P8.3: on a heap that has room for the sentinel alone.
func TestOneAloneWithoutAnyRoom(t *testing.T) {
	for _, engine := range engines {
		w := newTown(t, engine, 1, 1, ops(-1, 5, -1))
		w.hands[0].finish()
		want := []api.Answer{{Code: api.Empty}, {Code: api.Full}, {Code: api.Empty}}
		if !slices.Equal(w.hands[0].answers, want) {
			t.Errorf("engine %d: %v", engine, w.hands[0].answers)
		}
		w.checkQueue()
		w.checkSettled()
	}
}

// P8.3: one alone, whatever it does, on heaps with and without room: the answers are a queue's.
func TestOneAloneIsAQueue(t *testing.T) {
	for _, engine := range engines {
		for seed := range uint64(60) {
			r := rand.New(rand.NewPCG(seed, 80))
			slots := 1 + r.IntN(30)
			w := newTown(t, engine, slots, 1+r.IntN(5), anyOps(r, 60, func(int) int { return r.IntN(5) }))
			h := w.hands[0]
			var plain []int
			for _, op := range slices.Clone(h.ops) {
				h.ops = []api.Op{op}
				h.finish()
				a := h.answers[len(h.answers)-1]
				want := api.Answer{Code: api.Yes}
				switch {
				case a.Code == api.Full && op.Kind == api.OpEnqueue && w.p.Live() == slots:
					want.Code = api.Full
				case op.Kind == api.OpEnqueue:
					plain = append(plain, op.Val)
				case len(plain) == 0:
					want.Code = api.Empty
				default:
					want.Val, plain = plain[0], plain[1:]
				}
				if a != want {
					t.Fatalf("engine %d, seed %d: %+v came to %+v, not %+v", engine, seed, op, a, want)
				}
				w.checkQueue()
			}
			w.checkValues()
			w.checkSettled()
		}
	}
}

// anyOps draws at most so many operations; val answers what the n-th one enqueues.
func anyOps(r *rand.Rand, many int, val func(n int) int) []api.Op {
	var all []int
	for n := range 1 + r.IntN(many) {
		if r.IntN(2) == 0 {
			all = append(all, val(n))
		} else {
			all = append(all, -1)
		}
	}
	return ops(all...)
}

// turns goes through the orders in which hands can make their steps, one run after the other.
type turns struct {
	most  int   // how often a hand that could go on gives way to another one
	picks []int // of each step, which of those that could make it did
	among []int
}

// run lets the hands of a town work in the order at which the turns are.
func (o *turns) run(w *town) {
	var last *hand
	ways := 0
	for at := 0; ; at++ {
		can := w.able(last)
		if len(can) == 0 {
			return
		}
		goesOn := can[0] == last
		if goesOn && ways == o.most {
			can = can[:1]
		}
		if at == len(o.picks) {
			o.picks, o.among = append(o.picks, 0), append(o.among, len(can))
		}
		if goesOn && o.picks[at] > 0 {
			ways++
		}
		last = can[o.picks[at]]
		last.step()
		w.checkQueue()
	}
}

// able answers the hands that have something to do, this one first.
func (w *town) able(first *hand) []*hand {
	var can []*hand
	for _, h := range w.hands {
		switch {
		case !h.ready():
		case h == first:
			can = append([]*hand{h}, can...)
		default:
			can = append(can, h)
		}
	}
	return can
}

// more brings the turns to the next order; false, if that was the last one.
func (o *turns) more() bool {
	for last := len(o.picks) - 1; last >= 0; last-- {
		if o.picks[last]++; o.picks[last] < o.among[last] {
			o.picks, o.among = o.picks[:last+1], o.among[:last+1]
			return true
		}
	}
	return false
}

// P8.3: all turns in which a few operations can be made, or all of those with few changes.
func TestInAllTurns(t *testing.T) {
	const all = 1000
	for _, x := range []struct {
		engines []int
		most    int
		notes   int
		before  []int
		threads [][]int
	}{
		{engines[:1], all, 9, nil, [][]int{{101}, {201}}},
		{engines[:1], all, 9, nil, [][]int{{101}, {-1}}},
		{engines[:1], all, 9, []int{1}, [][]int{{-1}, {-1}}},
		{engines[:1], all, 9, []int{1}, [][]int{{101}, {-1}}},
		{engines[:2], 4, 9, nil, [][]int{{101}, {201}}},
		{engines[:2], 4, 9, nil, [][]int{{101}, {-1}}},
		{engines[:2], 4, 9, []int{1, 2}, [][]int{{-1}, {-1}}},
		{engines[:1], 3, 9, nil, [][]int{{101, -1}, {201, -1}}},
		{engines[:1], 2, 9, nil, [][]int{{101, 102}, {-1, -1}, {201}}},
		{engines, 3, 9, nil, [][]int{{101}, {201}}},
		{engines, 3, 9, nil, [][]int{{101}, {-1}}},
		{engines, 2, 9, nil, [][]int{{101, -1}, {201, -1}}},
		{engines, 1, 9, nil, [][]int{{101, 102}, {-1, -1}, {201}}},
		{engines, 2, 1, []int{1, 2}, [][]int{{-1}, {-1}}},
		{engines, 2, 1, []int{1}, [][]int{{101}, {-1, 201}}},
		{engines, 2, 1, []int{1}, [][]int{{-1}, {-1, 201}}},
		{engines, 2, 1, []int{1, 2}, [][]int{{-1}, {-1, -1, 201}}},
		{engines, 2, 1, []int{1, 2}, [][]int{{101}, {-1, -1, 201, -1}}},
		{engines, 1, 1, []int{1}, [][]int{{-1}, {301}, {-1, 201}}},
	} {
		for _, engine := range x.engines {
			o := &turns{most: x.most}
			runs := 0
			for is := true; is; is = o.more() {
				runs++
				w := townOn(t, engine, x.notes, x.before, x.threads)
				o.run(w)
				w.checkValues()
				w.checkOrder()
				w.checkSettled()
			}
			if runs < 10 {
				t.Errorf("engine %d, %v on %v: %d runs", engine, x.threads, x.before, runs)
			}
		}
	}
}

// townOn answers a town where something was enqueued before.
func townOn(t *testing.T, engine, notes int, before []int, threads [][]int) *town {
	t.Helper()
	var all [][]api.Op
	for _, of := range threads {
		all = append(all, ops(of...))
	}
	w := newTown(t, engine, 5, notes, all...)
	h := w.hands[0]
	own := h.ops
	h.ops = ops(before...)
	h.finish()
	h.ops = own
	return w
}

// P8.3: threads in any turns, on heaps with little room: at each step the queue has what was enqueued and not dequeued, in its order.
func TestInAnyTurns(t *testing.T) {
	for _, engine := range engines {
		for seed := range uint64(300) {
			r := rand.New(rand.NewPCG(seed, 81+uint64(engine)))
			w := anyTown(t, r, engine)
			w.run(r, 0)
			for _, h := range w.hands {
				h.finish()
			}
			w.checkQueue()
			w.checkValues()
			w.checkOrder()
			w.checkSettled()
		}
	}
}

// P8.3, P6: whoever is stalled for good, and wherever, the others come to their ends, one behind the other, and what they are answered is right.
func TestWhoeverIsStalled(t *testing.T) {
	for _, engine := range engines {
		for seed := range uint64(200) {
			r := rand.New(rand.NewPCG(seed, 90+uint64(engine)))
			w := anyTown(t, r, engine)
			picked := w.run(r, 1+r.IntN(len(w.hands)-1))
			for _, h := range picked {
				h.finish()
				w.checkQueue()
			}
			w.checkOrder()
		}
	}
}

// P8.3, P6: a thread that is stalled at any of its steps leaves the tail behind, perhaps; whoever meets it brings it on, and goes on.
func TestTheTailLagsBehind(t *testing.T) {
	for _, engine := range engines {
		lagged := 0
		for _, others := range [][]int{{-1}, {-1, -1}, {8}, {8, -1, -1, -1}, {-1, 8, -1, 9}} {
			for steps := range 14 {
				w := newTown(t, engine, 6, 1, ops(101), ops(others...))
				slow, fast := w.hands[0], w.hands[1]
				for range steps {
					slow.step()
				}
				_, refs, _ := Items(w.p)
				if tail, _ := w.p.Peek(tailAt); glyph.Ref(tail) != refs[len(refs)-1] {
					lagged++
				}
				fast.finish()
				w.checkQueue()
				slow.finish()
				w.checkQueue()
				w.checkValues()
				w.checkSettled()
				if tail, _ := w.p.Peek(tailAt); len(w.queue) == 0 && w.p.Live() == 1 && glyph.Ref(tail) != w.p.Used()[0] {
					t.Errorf("engine %d: the tail is %v", engine, tail)
				}
			}
		}
		if lagged < 5 {
			t.Errorf("engine %d: the tail lagged behind %d times", engine, lagged)
		}
	}
}

// P8.3: a thread that stands anywhere while the head's and the tail's slots go, and come back as other ones, or as the same ones in another generation, doesn't take them for the old ones.
func TestTheSlotsComeBack(t *testing.T) {
	for _, engine := range engines {
		heads, tails := 0, 0
		for _, own := range []int{101, -1} {
			for _, before := range [][]int{nil, {7}, {7, 8}} {
				for _, others := range [][]int{{-1, 9}, {9, -1, 10, -1}, {9, -1, 10, -1, 11, -1, 12}, {-1, -1, -1, 9, -1, 10, 11}} {
					for steps := range 14 {
						w := newTown(t, engine, 4, 1, ops(own), ops(before...))
						slow, fast := w.hands[0], w.hands[1]
						fast.finish()
						head, _ := w.p.Peek(headAt)
						tail, _ := w.p.Peek(tailAt)
						for range steps {
							slow.step()
						}
						fast.ops = ops(others...)
						fast.finish()
						w.checkQueue()
						if now, _ := w.p.Peek(headAt); now.Slot == head.Slot && now.Gen != head.Gen {
							heads++
						}
						if now, _ := w.p.Peek(tailAt); now.Slot == tail.Slot && now.Gen != tail.Gen {
							tails++
						}
						slow.finish()
						w.checkQueue()
						w.checkValues()
						w.checkSettled()
					}
				}
			}
		}
		if engine != api.Never && (heads == 0 || tails == 0) {
			t.Errorf("engine %d: the slots came back %d and %d times", engine, heads, tails)
		}
	}
}

// anyTown answers one whose threads enqueue values that tell who enqueued them, and in which order.
func anyTown(t *testing.T, r *rand.Rand, engine int) *town {
	t.Helper()
	var all [][]api.Op
	for me := range 2 + r.IntN(api.MaxThreads-1) {
		all = append(all, anyOps(r, 12, func(n int) int { return 100*me + n + 1 }))
	}
	return newTown(t, engine, 1+r.IntN(1+r.IntN(25)), 1+r.IntN(1+r.IntN(4)), all...)
}

// run lets the hands make steps in any turns; so many of them are stalled from somewhere on. It answers the others.
func (w *town) run(r *rand.Rand, stall int) []*hand {
	w.t.Helper()
	picked := slices.Clone(w.hands)
	r.Shuffle(len(picked), func(i, k int) { picked[i], picked[k] = picked[k], picked[i] })
	for turn := range 40 + r.IntN(200) {
		if stall > 0 && turn > 10 && r.IntN(10) == 0 {
			picked, stall = picked[1:], stall-1
		}
		h := picked[r.IntN(len(picked))]
		for range 1 + r.IntN(1+r.IntN(20)) {
			h.step()
		}
		w.checkQueue()
	}
	return picked[stall:]
}
