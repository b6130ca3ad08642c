package litany

import (
	"math/rand/v2"
	"slices"
	"testing"

	"sexton/api"
	"sexton/board"
	"sexton/glyph"
	"sexton/plot"
	"sexton/rite"
)

func yes(val int) api.Answer { return api.Answer{Code: api.Yes, Val: val} }

// The answers without a value.
var (
	empty = api.Answer{Code: api.Empty}
	had   = api.Answer{Code: api.Had}
	full  = api.Answer{Code: api.Full}
)

// P9.4: the example.
func TestOneAlone(t *testing.T) {
	for _, engine := range engines {
		w := newTown(t, engine, 3, 1, []api.Op{in(5, 1), in(5, 2), get(5), out(5), out(5)})
		w.hands[0].finish()
		if want := []api.Answer{yes(0), had, yes(1), yes(1), empty}; !slices.Equal(w.hands[0].answers, want) {
			t.Errorf("engine %d: %v", engine, w.hands[0].answers)
		}
		w.checkList()
		w.checkKeys()
		w.checkSettled()
	}
}

// P9.4, P9.2: without room nothing is changed, and whether the key is there isn't told; with a slot that was given back or freed there is room again.
func TestOneAloneWithoutRoom(t *testing.T) {
	for _, engine := range engines {
		w := newTown(t, engine, 2, 1, []api.Op{in(5, 1), in(5, 2), in(9, 3), in(5, 4), in(7, 4), get(5), out(9), out(5), get(5), in(7, 8)})
		w.hands[0].finish()
		want := []api.Answer{yes(0), had, yes(0), full, full, yes(1), yes(3), yes(1), empty, yes(0)}
		if engine == api.Never {
			want[9] = full
		}
		got := w.hands[0].answers
		// By eras and epochs a slot may come back later than when it is wanted.
		if engine > api.Hazard {
			got, want = got[:9], want[:9]
		}
		if !slices.Equal(got, want) {
			t.Errorf("engine %d: %v", engine, got)
		}
		w.checkList()
		w.checkKeys()
		w.checkSettled()
	}
}

// P9.4: on a heap that has no room at all.
func TestOneAloneWithoutAnyRoom(t *testing.T) {
	for _, engine := range engines {
		w := newTown(t, engine, 0, 1, []api.Op{out(5), in(5, 1), get(5)})
		w.hands[0].finish()
		if want := []api.Answer{empty, full, empty}; !slices.Equal(w.hands[0].answers, want) {
			t.Errorf("engine %d: %v", engine, w.hands[0].answers)
		}
		w.checkList()
		w.checkSettled()
	}
}

// aTown answers one of a list that has a root, or of one that stands behind a slot.
func aTown(t *testing.T, r *rand.Rand, engine, slots, notes int, ops ...[]api.Op) *town {
	t.Helper()
	if r.IntN(3) == 0 {
		return newTownBehind(t, engine, slots, notes, ops...)
	}
	return newTown(t, engine, slots, notes, ops...)
}

// P9.4: one alone, whatever it does, on heaps with and without room, from a root on and from another cell: the answers are an ordered map's.
func TestOneAloneIsAMap(t *testing.T) {
	for _, engine := range engines {
		for seed := range uint64(60) {
			r := rand.New(rand.NewPCG(seed, 90))
			slots := r.IntN(1 + r.IntN(30))
			w := aTown(t, r, engine, slots, 1+r.IntN(5), anyOps(r, 60, 1+r.IntN(20)))
			h := w.hands[0]
			plain := map[int]int{}
			for _, op := range slices.Clone(h.ops) {
				h.ops = []api.Op{op}
				h.finish()
				a := h.answers[len(h.answers)-1]
				val, ok := plain[op.Key]
				want := empty
				switch {
				case a == full && op.Kind == api.OpInsert && w.p.Live() == slots+w.others:
					want = full
				case op.Kind == api.OpInsert && ok:
					want = had
				case op.Kind == api.OpInsert:
					want, plain[op.Key] = yes(0), op.Val
				case ok:
					want = yes(val)
				}
				if op.Kind == api.OpDelete {
					delete(plain, op.Key)
				}
				if a != want || len(w.list) != len(plain) {
					t.Fatalf("engine %d, seed %d: %+v came to %+v, not %+v", engine, seed, op, a, want)
				}
				w.checkList()
			}
			w.checkKeys()
			w.checkSettled()
		}
	}
}

// anyOps draws at most so many operations, on so many keys.
func anyOps(r *rand.Rand, many, keys int) []api.Op {
	var all []api.Op
	for range 1 + r.IntN(many) {
		// The keys at both ends are met, too.
		key := r.IntN(keys)
		if r.IntN(2) == 0 {
			key = api.MaxKey - key
		}
		switch r.IntN(5) {
		case 0:
			all = append(all, get(key))
		case 1, 2:
			all = append(all, out(key))
		default:
			all = append(all, in(key, r.IntN(1000)))
		}
	}
	return all
}

// turns goes through the orders in which hands can make their steps, one run after the other.
type turns struct {
	most  int   // how often a hand that could go on gives way to another one
	picks []int // of each step, which of those that could make it did
	among []int
}

// run lets the hands of a town work in the order at which the turns are.
func (o *turns) run(w *town) {
	var last *hand
	ways := 0
	for at := 0; ; at++ {
		can := w.able(last)
		if len(can) == 0 {
			return
		}
		goesOn := can[0] == last
		if goesOn && ways == o.most {
			can = can[:1]
		}
		if at == len(o.picks) {
			o.picks, o.among = append(o.picks, 0), append(o.among, len(can))
		}
		if goesOn && o.picks[at] > 0 {
			ways++
		}
		last = can[o.picks[at]]
		last.step()
		w.checkList()
	}
}

// able answers the hands that have something to do, this one first.
func (w *town) able(first *hand) []*hand {
	var can []*hand
	for _, h := range w.hands {
		switch {
		case !h.ready():
		case h == first:
			can = append([]*hand{h}, can...)
		default:
			can = append(can, h)
		}
	}
	return can
}

// more brings the turns to the next order; false, if that was the last one.
func (o *turns) more() bool {
	for last := len(o.picks) - 1; last >= 0; last-- {
		if o.picks[last]++; o.picks[last] < o.among[last] {
			o.picks, o.among = o.picks[:last+1], o.among[:last+1]
			return true
		}
	}
	return false
}

// P9.4: all turns in which a few operations can be made, or all of those with few changes.
func TestInAllTurns(t *testing.T) {
	type all [][]api.Op
	const every = 1000
	for _, x := range []struct {
		engines []int
		most    int
		notes   int
		before  []api.Op
		threads all
	}{
		{engines[:1], every, 9, nil, all{{in(5, 1)}, {in(5, 2)}}},
		{engines[:1], every, 9, nil, all{{in(5, 1)}, {in(6, 2)}}},
		{engines[:1], every, 9, []api.Op{in(3, 3)}, all{{in(5, 1)}, {get(5)}}},
		{engines[:1], every, 9, []api.Op{in(5, 1)}, all{{get(5)}, {out(5)}}},
		{engines[:1], every, 9, []api.Op{in(5, 1)}, all{{out(5)}, {out(5)}}},
		{engines[:1], every, 9, []api.Op{in(5, 1)}, all{{in(5, 2)}, {out(5)}}},
		{engines[:1], 5, 9, []api.Op{in(5, 1)}, all{{in(6, 2)}, {out(5)}}},
		{engines[:1], 5, 9, []api.Op{in(5, 1), in(6, 2)}, all{{out(5)}, {out(6)}}},
		{engines[:1], 2, 9, []api.Op{in(5, 1), in(7, 2)}, all{{out(5)}, {out(7)}, {in(6, 3)}}},
		{engines[:1], 3, 9, []api.Op{in(5, 1)}, all{{out(5), in(5, 2)}, {out(5), in(5, 3)}}},
		{engines, 3, 9, nil, all{{in(5, 1)}, {in(5, 2)}}},
		{engines[1:2], 3, 9, []api.Op{in(5, 1), in(6, 2)}, all{{out(5)}, {out(6)}}},
		{engines, 2, 9, []api.Op{in(5, 1), in(6, 2)}, all{{out(5)}, {out(6)}}},
		{engines, 2, 1, []api.Op{in(5, 1)}, all{{out(5)}, {out(5), in(5, 2)}}},
		{engines, 2, 1, []api.Op{in(5, 1)}, all{{get(5)}, {out(5), in(5, 2)}}},
		{engines, 2, 1, []api.Op{in(5, 1), in(6, 2)}, all{{get(6)}, {out(5), out(6), in(6, 3)}}},
		{engines, 2, 1, []api.Op{in(5, 1), in(6, 2)}, all{{in(7, 3)}, {out(6), out(5), in(4, 4)}}},
		{engines, 1, 1, []api.Op{in(5, 1)}, all{{out(5)}, {in(4, 4)}, {out(5), in(5, 2)}}},
	} {
		for _, engine := range x.engines {
			o := &turns{most: x.most}
			runs := 0
			for is := true; is; is = o.more() {
				runs++
				w := townOn(t, engine, x.notes, x.before, x.threads)
				o.run(w)
				w.checkKeys()
				w.checkSettled()
			}
			if runs < 10 {
				t.Errorf("engine %d, %v on %v: %d runs", engine, x.threads, x.before, runs)
			}
		}
	}
}

// townOn answers a town where something was inserted before.
func townOn(t *testing.T, engine, notes int, before []api.Op, threads [][]api.Op) *town {
	t.Helper()
	w := newTown(t, engine, 5, notes, threads...)
	h := w.hands[0]
	own := h.ops
	h.ops = before
	h.finish()
	h.ops = own
	return w
}

// P9.4: threads in any turns, on heaps with little room: at each step the list has what was inserted and not deleted, by rising keys.
func TestInAnyTurns(t *testing.T) {
	for _, engine := range engines {
		for seed := range uint64(300) {
			r := rand.New(rand.NewPCG(seed, 91+uint64(engine)))
			w := anyTown(t, r, engine)
			w.run(r, 0)
			for _, h := range w.hands {
				h.finish()
			}
			w.checkList()
			w.checkKeys()
			w.checkSettled()
		}
	}
}

// P9.4, P6: whoever is stalled for good, and wherever, the others come to their ends, one behind the other, and what they are answered is right.
func TestWhoeverIsStalled(t *testing.T) {
	for _, engine := range engines {
		for seed := range uint64(200) {
			r := rand.New(rand.NewPCG(seed, 190+uint64(engine)))
			w := anyTown(t, r, engine)
			for _, h := range w.run(r, 1+r.IntN(len(w.hands)-1)) {
				h.finish()
				w.checkList()
			}
		}
	}
}

// P9.4, P6: a thread that is stalled at any of its steps leaves a marked slot behind, perhaps; that is there for nobody, and who comes by leads past it, and retires it.
func TestWhatIsMarkedIsTakenOut(t *testing.T) {
	for _, engine := range engines {
		left := 0
		for _, others := range [][]api.Op{{get(5)}, {get(9)}, {out(5)}, {in(5, 8)}, {in(6, 8), out(4)}, {out(6), out(4), in(5, 8), out(5)}} {
			for steps := range 40 {
				w := newTown(t, engine, 6, 1, []api.Op{out(5)}, slices.Concat([]api.Op{in(4, 1), in(5, 2), in(6, 3)}, others))
				slow, fast := w.hands[0], w.hands[1]
				for len(fast.ops) > len(others) {
					fast.step()
					fast.ready()
				}
				for range steps {
					slow.step()
				}
				w.checkList()
				if _, refs, _ := Items(w.p, root); len(refs) > len(w.list) {
					left++
					fast.finish()
					if _, refs, _ := Items(w.p, root); len(refs) > len(w.list) {
						t.Fatalf("engine %d, %d steps, %v: %v of %v", engine, steps, others, refs, w.list)
					}
				}
				fast.finish()
				w.checkList()
				slow.finish()
				w.checkList()
				w.checkKeys()
				w.checkSettled()
			}
		}
		if left < 5 {
			t.Errorf("engine %d: a marked slot was left behind %d times", engine, left)
		}
	}
}

// P9.4: a thread that stands anywhere while the slots that it sees go, and come back as other keys', or as the same ones in another generation, doesn't take them for the old ones.
func TestTheSlotsComeBack(t *testing.T) {
	for _, engine := range engines {
		back := 0
		for _, own := range []api.Op{in(5, 1), out(5), get(5), out(6), in(7, 1)} {
			for _, before := range [][]api.Op{{in(5, 2)}, {in(5, 2), in(6, 3)}, {in(4, 1), in(6, 3)}} {
				for _, others := range [][]api.Op{
					{out(5), in(5, 4)}, {out(6), out(5), in(6, 4), in(5, 5)}, {out(5), in(6, 4), out(6), in(5, 5)},
					{out(4), out(6), in(5, 4), in(4, 5), out(5), in(6, 6)}, {out(5), in(3, 4), out(3), in(5, 5), out(5), in(5, 6)},
				} {
					for steps := range 24 {
						w := newTown(t, engine, 4, 1, []api.Op{own}, before)
						slow, fast := w.hands[0], w.hands[1]
						fast.finish()
						_, old, _ := Items(w.p, root)
						for range steps {
							slow.step()
						}
						fast.ops = others
						fast.finish()
						w.checkList()
						_, now, _ := Items(w.p, root)
						back += cameBack(old, now)
						slow.finish()
						w.checkList()
						w.checkKeys()
						w.checkSettled()
					}
				}
			}
		}
		if engine != api.Never && back == 0 {
			t.Errorf("engine %d: no slot came back", engine)
		}
	}
}

// cameBack answers how many slots are there now as they were, but in another generation.
func cameBack(old, now []api.Word) int {
	many := 0
	for _, ref := range now {
		if slices.ContainsFunc(old, func(w api.Word) bool { return w.Slot == ref.Slot && w.Gen != ref.Gen }) {
			many++
		}
	}
	return many
}

// P9.4: two lists on one heap, from cells of their own on, each with its keys; nothing of the one is to be seen in the other.
func TestListsAreApart(t *testing.T) {
	p := heap(t, 10)
	put(t, p, board.Era(), glyph.Num(1))
	node := do(t, p, api.Access{Kind: api.New}).Word
	r, err := rite.New(api.Hazard, 0, 1, 1)
	if err != nil {
		t.Fatal(err)
	}
	firsts := []api.Addr{root, {Field: 9}, cell(node, 2)}
	for i, x := range []struct {
		first api.Addr
		key   int
		op    api.Op
		want  api.Answer
	}{
		{firsts[0], 5, in(5, 1), yes(0)},
		{firsts[1], 5, in(1, 2), yes(0)},
		{firsts[2], 511, in(1, 3), yes(0)},
		{firsts[2], -7, in(1, 4), yes(0)},
		{firsts[2], 511, in(1, 5), had},
		{firsts[1], 5, get(9), yes(2)},
		{firsts[1], 511, get(5), empty},
		{firsts[2], -7, out(5), yes(4)},
		{firsts[2], 5, out(5), empty},
		{firsts[0], 5, out(5), yes(1)},
	} {
		j := From(x.first, x.key, x.op)
		c := j.Next(api.Reply{})
		for c.Kind != api.CallDone {
			c = j.Next(call(t, p, r, c))
		}
		if c.Answer != x.want {
			t.Errorf("%d: %+v, not %+v", i, c.Answer, x.want)
		}
	}
	checkItems(t, p, firsts[0], nil, nil)
	for i, x := range []api.Pair{{Key: 5, Val: 2}, {Key: 511, Val: 3}} {
		if pairs, _, err := Items(p, firsts[i+1]); !slices.Equal(pairs, []api.Pair{x}) || err != nil {
			t.Errorf("%v, %v", pairs, err)
		}
	}
}

// call lets a rite make a call.
func call(t *testing.T, p *plot.Plot, r *rite.Rite, c api.Call) api.Reply {
	t.Helper()
	if err := r.Begin(c); err != nil {
		t.Fatal(c, err)
	}
	for a, ok := r.Next(); ok; a, ok = r.Next() {
		r.Took(do(t, p, a))
	}
	return r.Reply()
}

// anyTown answers one whose threads meet each other on a few keys.
func anyTown(t *testing.T, r *rand.Rand, engine int) *town {
	t.Helper()
	keys := 1 + r.IntN(4)
	var all [][]api.Op
	for range 2 + r.IntN(api.MaxThreads-1) {
		all = append(all, anyOps(r, 12, keys))
	}
	return aTown(t, r, engine, r.IntN(1+r.IntN(25)), 1+r.IntN(1+r.IntN(4)), all...)
}

// run lets the hands make steps in any turns; so many of them are stalled from somewhere on. It answers the others.
func (w *town) run(r *rand.Rand, stall int) []*hand {
	w.t.Helper()
	picked := slices.Clone(w.hands)
	r.Shuffle(len(picked), func(i, k int) { picked[i], picked[k] = picked[k], picked[i] })
	for turn := range 40 + r.IntN(200) {
		if stall > 0 && turn > 10 && r.IntN(10) == 0 {
			picked, stall = picked[1:], stall-1
		}
		h := picked[r.IntN(len(picked))]
		for range 1 + r.IntN(1+r.IntN(20)) {
			h.step()
		}
		w.checkList()
	}
	return picked[stall:]
}
