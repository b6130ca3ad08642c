package cortege

import (
	"math"
	"math/rand/v2"
	"testing"

	"sexton/api"
)

// asker makes a call; when it gives up, all that is asked from then on is answered with nothing.
type asker struct {
	make func(api.Call) (api.Reply, bool)
	gone bool
}

func (a *asker) ask(c api.Call) api.Reply {
	if a.gone {
		return api.Reply{}
	}
	x, ok := a.make(c)
	a.gone = !ok
	return x
}

// tellEnqueue enqueues as the chapter tells it, from its first line to its last one.
func tellEnqueue(val int, a *asker) api.Answer {
	x := a.ask(alloc)
	if !x.Ok {
		return api.Answer{Code: api.Full}
	}
	node := x.Word
	a.ask(store(cell(node, 1), api.Word{Num: val}))
	for !a.gone {
		t := a.ask(protect(tailAt, 0)).Word
		n := a.ask(load(cell(t, 2))).Word
		now := a.ask(load(tailAt)).Word
		if !same(now, t) {
			continue
		}
		if n.Slot != 0 {
			a.ask(swap(tailAt, t, to(t, n)))
			continue
		}
		if a.ask(swap(cell(t, 2), n, to(n, node))).Ok {
			a.ask(swap(tailAt, t, to(t, node)))
			break
		}
	}
	return api.Answer{Code: api.Yes}
}

// tellDequeue dequeues as the chapter tells it.
func tellDequeue(a *asker) api.Answer {
	for !a.gone {
		h := a.ask(protect(headAt, 0)).Word
		t := a.ask(load(tailAt)).Word
		n := a.ask(protect(cell(h, 2), 1)).Word
		now := a.ask(load(headAt)).Word
		if !same(now, h) {
			continue
		}
		if n.Slot == 0 {
			break
		}
		if h.Slot == t.Slot {
			a.ask(swap(tailAt, t, to(t, n)))
			continue
		}
		val := a.ask(load(cell(n, 1))).Word.Num
		if a.ask(swap(headAt, h, to(h, n))).Ok {
			a.ask(api.Call{Kind: api.CallRetire, Old: h})
			return api.Answer{Code: api.Yes, Val: val}
		}
	}
	return api.Answer{Code: api.Empty}
}

func cell(w api.Word, n int) api.Addr { return api.Addr{Slot: w.Slot, Gen: w.Gen, Field: n} }

func to(w, ref api.Word) api.Word {
	return api.Word{Slot: ref.Slot, Gen: ref.Gen, Tag: w.Tag + 1}
}

func same(a, b api.Word) bool {
	return a.Slot == b.Slot && a.Tag == b.Tag && a.Num == b.Num && a.Mark == b.Mark
}

// follow holds a job call by call against what is told, whatever is answered; it answers the code to which it came, 0, if it was given up.
func follow(t *testing.T, op api.Op, answer func() api.Reply) int {
	t.Helper()
	j := start(t, op)
	x := answer()
	calls := 0
	a := &asker{make: func(c api.Call) (api.Reply, bool) {
		t.Helper()
		if calls++; calls > 80 {
			return api.Reply{}, false
		}
		next(t, j, x, c)
		x = answer()
		return x, true
	}}
	var want api.Answer
	if op.Kind == api.OpEnqueue {
		want = tellEnqueue(op.Val, a)
	} else {
		want = tellDequeue(a)
	}
	if a.gone {
		return 0
	}
	done(t, j, x, want.Code, want.Val)
	return want.Code
}

// P8.1, P1: whatever is answered, the job makes the calls that the chapter tells, and comes to the answers that it tells.
func TestAsTold(t *testing.T) {
	ended := map[[2]int]int{}
	for seed := range uint64(40000) {
		r := rand.New(rand.NewPCG(seed, 8))
		op := api.Op{Kind: api.OpEnqueue + r.IntN(2)}
		if op.Kind == api.OpEnqueue {
			op.Val = r.IntN(1<<30 + 1)
		}
		number := func() int { return r.IntN(4) }
		if seed%2 == 0 {
			number = func() int { return far[r.IntN(len(far))] }
		}
		good := r.IntN(3)
		var told []api.Word
		ended[[2]int{op.Kind, follow(t, op, func() api.Reply {
			w := api.Word{Slot: number(), Gen: number(), Tag: number(), Num: number(), Mark: r.IntN(2) == 0}
			// Without words that come again no look would find what it saw.
			if many := len(told); many > 3 && r.IntN(2) == 0 {
				w = told[many-1-r.IntN(4)]
				if r.IntN(4) == 0 {
					w.Gen = number()
				}
			}
			if r.IntN(6) == 0 {
				w.Slot = 0
			}
			told = append(told, w)
			return api.Reply{Word: w, Ok: r.IntN(3) <= good}
		})}]++
	}
	for _, end := range [][2]int{{api.OpEnqueue, api.Full}, {api.OpEnqueue, api.Yes}, {api.OpDequeue, api.Empty}, {api.OpDequeue, api.Yes}} {
		if ended[end] < 1000 {
			t.Errorf("the operation %d came to %d %d times", end[0], end[1], ended[end])
		}
	}
}

// P1: however often it is asked, and whatever was answered, nothing panics; who never lets a swap take place is asked for it again.
func TestSwapsThatNeverTakePlace(t *testing.T) {
	w := api.Word{Slot: 1, Gen: 1, Tag: math.MaxInt}
	for _, x := range []struct {
		kind   int
		behind api.Word // what the Next has
		at     api.Addr // which cell is swapped in vain
		calls  int      // from one try to the next
	}{
		{api.OpEnqueue, api.Word{Tag: math.MaxInt}, cell(w, 2), 4},
		{api.OpEnqueue, api.Word{Slot: 2}, tailAt, 4},
		{api.OpDequeue, api.Word{Slot: 2}, tailAt, 5},
	} {
		j := start(t, api.Op{Kind: x.kind})
		swaps := 0
		reply := fine
		for range 30000 {
			c := j.Next(reply)
			reply = word(w)
			switch {
			case c.At == cell(w, 2) && c.Kind != api.CallSwap:
				reply.Word = x.behind
			case c.Kind == api.CallSwap:
				reply.Ok = false
				if swaps++; c.At != x.at || c.New.Tag != math.MinInt {
					t.Fatalf("%+v", c)
				}
			}
		}
		if swaps < 30000/x.calls-1 {
			t.Errorf("the operation %d asked for %d swaps", x.kind, swaps)
		}
	}
}
