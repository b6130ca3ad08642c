package pile

import (
	"math"
	"math/rand/v2"
	"testing"

	"sexton/api"
)

// tell does an operation as the chapter tells it, from its first line to its last one; ask makes a call. False: it was given up.
func tell(op api.Op, ask func(api.Call) (api.Reply, bool)) (api.Answer, bool) {
	if op.Kind == api.OpPush {
		return tellPush(op.Val, ask)
	}
	for {
		x, ok := ask(protect)
		top := x.Word
		if !ok || top.Slot == 0 {
			return api.Answer{Code: api.Empty}, ok
		}
		if op.Kind == api.OpPop {
			if x, ok = ask(load(cell(top, 2))); !ok {
				return api.Answer{}, false
			}
			if x, ok = ask(swap(api.Addr{}, top, to(top, x.Word))); !ok {
				return api.Answer{}, false
			}
			if !x.Ok {
				continue
			}
		}
		if x, ok = ask(load(cell(top, 1))); ok && op.Kind == api.OpPop {
			_, ok = ask(api.Call{Kind: api.CallRetire, Old: top})
		}
		return api.Answer{Code: api.Yes, Val: x.Word.Num}, ok
	}
}

func tellPush(val int, ask func(api.Call) (api.Reply, bool)) (api.Answer, bool) {
	x, ok := ask(alloc)
	if !ok || !x.Ok {
		return api.Answer{Code: api.Full}, ok
	}
	node := x.Word
	_, ok = ask(store(cell(node, 1), api.Word{Num: val}))
	for ok {
		x, _ = ask(load(api.Addr{}))
		top := x.Word
		ask(store(cell(node, 2), api.Word{Slot: top.Slot, Gen: top.Gen}))
		if x, ok = ask(swap(api.Addr{}, top, to(top, node))); x.Ok {
			break
		}
	}
	return api.Answer{Code: api.Yes}, ok
}

func cell(w api.Word, n int) api.Addr { return api.Addr{Slot: w.Slot, Gen: w.Gen, Field: n} }

func to(w, ref api.Word) api.Word {
	return api.Word{Slot: ref.Slot, Gen: ref.Gen, Tag: w.Tag + 1}
}

// follow holds a job call by call against what is told, whatever is answered; it answers the code to which it came, 0, if it was given up.
func follow(t *testing.T, op api.Op, answer func() api.Reply) int {
	t.Helper()
	j := start(t, op)
	x := answer()
	calls := 0
	a, ok := tell(op, func(c api.Call) (api.Reply, bool) {
		t.Helper()
		if calls++; calls > 60 {
			return api.Reply{}, false
		}
		next(t, j, x, c)
		x = answer()
		return x, true
	})
	if !ok {
		return 0
	}
	done(t, j, x, a.Code, a.Val)
	return a.Code
}

// P7.1, P1: whatever is answered, the job makes the calls that the chapter tells, and comes to the answers that it tells.
func TestAsTold(t *testing.T) {
	ended := map[[2]int]int{}
	for seed := range uint64(20000) {
		r := rand.New(rand.NewPCG(seed, 7))
		op := api.Op{Kind: 1 + r.IntN(3)}
		if op.Kind == api.OpPush {
			op.Val = r.IntN(1<<30 + 1)
		}
		number := func() int { return r.IntN(4) }
		if seed%2 == 0 {
			number = func() int { return far[r.IntN(len(far))] }
		}
		good := r.IntN(3)
		code := follow(t, op, func() api.Reply {
			w := api.Word{Slot: number(), Gen: number(), Tag: number(), Num: number(), Mark: r.IntN(2) == 0}
			return api.Reply{Word: w, Ok: r.IntN(3) <= good}
		})
		ended[[2]int{op.Kind, code}]++
	}
	for _, end := range [][2]int{{api.OpPush, api.Full}, {api.OpPush, api.Yes}, {api.OpPop, api.Empty}, {api.OpPop, api.Yes}, {api.OpPeek, api.Empty}, {api.OpPeek, api.Yes}} {
		if ended[end] < 100 {
			t.Errorf("the operation %d came to %d %d times", end[0], end[1], ended[end])
		}
	}
}

// P1: however often it is asked, and whatever was answered, nothing panics; who never lets a swap take place is asked for it again.
func TestSwapsThatNeverTakePlace(t *testing.T) {
	for _, kind := range []int{api.OpPush, api.OpPop} {
		j := start(t, api.Op{Kind: kind})
		swaps := 0
		x := fine
		for range 30000 {
			c := j.Next(x)
			x = word(api.Word{Slot: 1, Gen: 1, Tag: math.MaxInt})
			if c.Kind == api.CallSwap {
				swaps++
				x.Ok = false
				if c.New.Tag != math.MinInt {
					t.Fatalf("%+v", c)
				}
			}
		}
		if swaps < 9999 {
			t.Errorf("the operation %d asked for %d swaps", kind, swaps)
		}
	}
}
