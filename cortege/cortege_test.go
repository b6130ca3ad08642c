package cortege

import (
	"errors"
	"math"
	"testing"

	"sexton/api"
	"sexton/woe"
)

// far are numbers at and around the limits, and the ends of their type.
var far = []int{
	math.MinInt, math.MinInt + 1, -1 << 32, -2, -1, 0, 1, 2, 3, 4, 5, 6, 7, 8, 9, 255, 256, 257,
	1<<30 - 1, 1 << 30, 1<<30 + 1, 1 << 32, 1<<32 + 1, math.MaxInt - 1, math.MaxInt,
}

func start(t *testing.T, op api.Op) *Job {
	t.Helper()
	j, err := Start(op)
	if j == nil || err != nil {
		t.Fatalf("Start(%+v): %v, %v", op, j, err)
	}
	return j
}

// next asks for the next call, behind the reply x.
func next(t *testing.T, j *Job, x api.Reply, want api.Call) {
	t.Helper()
	if c := j.Next(x); c != want {
		t.Fatalf("the next call is %+v, not %+v", c, want)
	}
}

// done asks for the end, behind the reply x, and again, whatever is handed in.
func done(t *testing.T, j *Job, x api.Reply, code, val int) {
	t.Helper()
	want := api.Call{Kind: api.CallDone, Answer: api.Answer{Code: code, Val: val}}
	for _, x := range []api.Reply{x, {}, fine, {Word: api.Word{Slot: 3, Gen: 2, Tag: 9, Num: 4}, Ok: true}, {Word: api.Word{Num: -1}}, x} {
		next(t, j, x, want)
	}
}

var fine = api.Reply{Ok: true}

func word(w api.Word) api.Reply { return api.Reply{Word: w, Ok: true} }

func load(at api.Addr) api.Call { return api.Call{Kind: api.CallLoad, At: at} }

func store(at api.Addr, w api.Word) api.Call {
	return api.Call{Kind: api.CallStore, At: at, New: w}
}

func swap(at api.Addr, old, new api.Word) api.Call {
	return api.Call{Kind: api.CallSwap, At: at, Old: old, New: new}
}

func protect(at api.Addr, i int) api.Call {
	return api.Call{Kind: api.CallProtect, At: at, I: i}
}

// The calls that hang on nothing, and where things stand.
var (
	alloc  = api.Call{Kind: api.CallAlloc}
	headAt = api.Addr{Field: 0}
	tailAt = api.Addr{Field: 1}
)

// P8.1: what can be, at all edges.
func TestStart(t *testing.T) {
	check := func(op api.Op) {
		can := false
		if op.Key == 0 && op.Tall == 0 {
			can = op.Kind == 4 && op.Val >= 0 && op.Val <= 1073741824 || op.Kind == 5 && op.Val == 0
		}
		j, err := Start(op)
		if can != (j != nil) || can != (err == nil) || !can && (!errors.Is(err, api.ErrArg) || woe.Code(err) != 1) {
			t.Errorf("Start(%+v): %v, %v", op, j, err)
		}
	}
	for _, a := range far {
		for kind := range 10 {
			for _, b := range []int{math.MinInt, -1, 0, 1, math.MaxInt} {
				check(api.Op{Kind: kind, Val: a, Key: b})
				check(api.Op{Kind: kind, Val: a, Tall: b})
				check(api.Op{Kind: kind, Val: b, Key: a})
				check(api.Op{Kind: kind, Val: b, Tall: a})
			}
		}
		for _, b := range far {
			check(api.Op{Kind: a, Val: b})
		}
	}
}

// P8.1, rule 5: a nil job.
func TestNilJob(t *testing.T) {
	var j *Job
	for _, x := range []api.Reply{{}, fine, word(api.Word{Slot: 1, Gen: 1})} {
		next(t, j, x, api.Call{})
	}
}

// P8.1: the first call is the first one, whatever is handed in with it.
func TestTheFirstReplyIsNothing(t *testing.T) {
	for kind, want := range map[int]api.Call{api.OpEnqueue: alloc, api.OpDequeue: protect(headAt, 0)} {
		for _, x := range []api.Reply{{}, fine, word(api.Word{Slot: 7, Gen: 1, Tag: 2, Num: 3, Mark: true}), {Word: api.Word{Num: -1}}} {
			next(t, start(t, api.Op{Kind: kind}), x, want)
		}
	}
}

// filledNode brings an operation that enqueues to the look at the tail, behind which its node is 4 in the generation 6.
func filledNode(t *testing.T, val int) (*Job, api.Reply) {
	t.Helper()
	j := start(t, api.Op{Kind: api.OpEnqueue, Val: val})
	next(t, j, api.Reply{}, alloc)
	next(t, j, word(api.Word{Slot: 4, Gen: 6, Tag: 2, Num: 3}), store(api.Addr{Slot: 4, Gen: 6, Field: 1}, api.Word{Num: val}))
	return j, fine
}

// seeTail goes from the look at the tail to the look whether it is still the same; the slot 9 is seen, and behind it that.
func seeTail(t *testing.T, j *Job, behind api.Reply, tag int, after api.Word) api.Word {
	t.Helper()
	seen := api.Word{Slot: 9, Gen: 2, Tag: tag, Num: 3, Mark: true}
	next(t, j, behind, protect(tailAt, 0))
	next(t, j, word(seen), load(api.Addr{Slot: 9, Gen: 2, Field: 2}))
	next(t, j, word(after), load(tailAt))
	return seen
}

// P8.1: line by line; a swap of the last Next that didn't take place begins again with the look at the tail.
func TestEnqueue(t *testing.T) {
	for _, val := range []int{0, 1, 1 << 30} {
		for _, last := range []api.Reply{fine, {}, {Word: api.Word{Slot: 8, Tag: 3}}} {
			j, behind := filledNode(t, val)
			end := api.Word{Gen: 7, Tag: 50, Num: 8, Mark: true}
			for tries := range 4 {
				seen := seeTail(t, j, behind, 7+tries, end)
				next(t, j, word(seen), swap(api.Addr{Slot: 9, Gen: 2, Field: 2}, end, api.Word{Slot: 4, Gen: 6, Tag: 51}))
				behind = api.Reply{Word: api.Word{Slot: 9, Gen: 2, Tag: 7 + tries, Num: 3, Mark: true}}
			}
			seen := seeTail(t, j, behind, 30, api.Word{})
			next(t, j, word(seen), swap(api.Addr{Slot: 9, Gen: 2, Field: 2}, api.Word{}, api.Word{Slot: 4, Gen: 6, Tag: 1}))
			next(t, j, fine, swap(tailAt, seen, api.Word{Slot: 4, Gen: 6, Tag: 31}))
			done(t, j, last, api.Yes, 0)
		}
	}
}

// P8.1: a tail that isn't the same any more is looked at again, whatever is behind it; in which generation it is can't be seen.
func TestEnqueueLooksAtTheTailAgain(t *testing.T) {
	for _, after := range []api.Word{{}, {Slot: 5, Gen: 1}} {
		j, behind := filledNode(t, 5)
		for _, change := range []func(*api.Word){
			func(w *api.Word) { w.Slot++ },
			func(w *api.Word) { w.Slot = 0 },
			func(w *api.Word) { w.Tag++ },
			func(w *api.Word) { w.Num-- },
			func(w *api.Word) { w.Mark = false },
		} {
			now := seeTail(t, j, behind, 7, after)
			change(&now)
			behind = word(now)
		}
		seen := seeTail(t, j, behind, 7, api.Word{})
		seen.Gen = 3
		next(t, j, word(seen), swap(api.Addr{Slot: 9, Gen: 2, Field: 2}, api.Word{}, api.Word{Slot: 4, Gen: 6, Tag: 1}))
	}
}

// P8.1: a tail that lags behind is brought on, and looked at again, whether that took place or not.
func TestEnqueueBringsTheTailOn(t *testing.T) {
	j, behind := filledNode(t, 5)
	for _, x := range []api.Reply{fine, {}, word(api.Word{Slot: 9, Gen: 2, Tag: 7}), {Word: api.Word{Slot: 9, Gen: 2, Tag: 7}}} {
		seen := seeTail(t, j, behind, 7, api.Word{Slot: 5, Gen: 8, Tag: 60, Num: 2, Mark: true})
		next(t, j, word(seen), api.Call{
			Kind: api.CallSwap, At: tailAt,
			Old: api.Word{Slot: 9, Gen: 2, Tag: 7, Num: 3, Mark: true},
			New: api.Word{Slot: 5, Gen: 8, Tag: 8},
		})
		behind = x
	}
	seeTail(t, j, behind, 8, api.Word{})
}

// P8.1: without a slot nothing else is asked for.
func TestEnqueueFull(t *testing.T) {
	for _, w := range []api.Word{{}, {Slot: 3, Gen: 1}, {Num: -1}} {
		j := start(t, api.Op{Kind: api.OpEnqueue, Val: 5})
		next(t, j, fine, alloc)
		done(t, j, api.Reply{Word: w}, api.Full, 0)
	}
}

// seeHead goes from the look at the head to the look whether it is still the same; the slot 3 is seen, and behind it that, and that as the tail.
func seeHead(t *testing.T, j *Job, behind api.Reply, tag int, tail, after api.Word) api.Word {
	t.Helper()
	seen := api.Word{Slot: 3, Gen: 5, Tag: tag, Num: 2, Mark: true}
	next(t, j, behind, protect(headAt, 0))
	next(t, j, word(seen), load(tailAt))
	next(t, j, word(tail), protect(api.Addr{Slot: 3, Gen: 5, Field: 2}, 1))
	next(t, j, word(after), load(headAt))
	return seen
}

// Another slot than the head's, as the tail and behind the head.
var (
	farTail = api.Word{Slot: 12, Gen: 5, Tag: 40, Num: 2, Mark: true}
	after   = api.Word{Slot: 20, Gen: 8, Tag: 90, Num: 1, Mark: true}
)

// P8.1: line by line; a swap that didn't take place begins again; the value is that of the slot behind, and the slot ahead is retired.
func TestDequeue(t *testing.T) {
	for _, val := range []int{0, 1, 1 << 30, -1, math.MinInt, math.MaxInt} {
		j := start(t, api.Op{Kind: api.OpDequeue})
		behind := fine
		for tries := range 4 {
			seen := seeHead(t, j, behind, 40+tries, farTail, after)
			next(t, j, word(seen), load(api.Addr{Slot: 20, Gen: 8, Field: 1}))
			next(t, j, word(api.Word{Num: 9}), swap(headAt, seen, api.Word{Slot: 20, Gen: 8, Tag: 41 + tries}))
			behind = api.Reply{Word: seen}
		}
		seen := seeHead(t, j, behind, 50, farTail, after)
		next(t, j, word(seen), load(api.Addr{Slot: 20, Gen: 8, Field: 1}))
		next(t, j, word(api.Word{Slot: 2, Gen: 2, Tag: 2, Num: val}), swap(headAt, seen, api.Word{Slot: 20, Gen: 8, Tag: 51}))
		next(t, j, word(api.Word{Num: 6}), api.Call{Kind: api.CallRetire, Old: seen})
		done(t, j, word(api.Word{Num: 3}), api.Yes, val)
	}
}

// P8.1: a head that isn't the same any more is looked at again, whatever else was seen; in which generation it is can't be seen.
func TestDequeueLooksAtTheHeadAgain(t *testing.T) {
	for _, behindIt := range []api.Word{{}, after} {
		for _, tail := range []api.Word{farTail, {Slot: 3, Gen: 5}} {
			j := start(t, api.Op{Kind: api.OpDequeue})
			behind := fine
			for _, change := range []func(*api.Word){
				func(w *api.Word) { w.Slot++ },
				func(w *api.Word) { w.Slot = 0 },
				func(w *api.Word) { w.Tag++ },
				func(w *api.Word) { w.Num-- },
				func(w *api.Word) { w.Mark = false },
			} {
				now := seeHead(t, j, behind, 7, tail, behindIt)
				change(&now)
				behind = word(now)
			}
			seen := seeHead(t, j, behind, 7, farTail, after)
			seen.Gen = 3
			next(t, j, word(seen), load(api.Addr{Slot: 20, Gen: 8, Field: 1}))
		}
	}
}

// P8.1: whether there is something hangs on the slot behind the head's alone, at each look; a tail without one behind is nothing to it.
func TestDequeueOfNothing(t *testing.T) {
	for _, w := range []api.Word{{}, {Tag: 7}, {Gen: 3, Tag: 7, Num: 9, Mark: true}} {
		for _, tail := range []api.Word{farTail, {Slot: 3, Gen: 5}, {}} {
			j := start(t, api.Op{Kind: api.OpDequeue})
			seen := seeHead(t, j, fine, 7, tail, w)
			done(t, j, word(seen), api.Empty, 0)
			j = start(t, api.Op{Kind: api.OpDequeue})
			seen = seeHead(t, j, fine, 7, farTail, after)
			next(t, j, word(seen), load(api.Addr{Slot: 20, Gen: 8, Field: 1}))
			next(t, j, word(api.Word{Num: 9}), swap(headAt, seen, api.Word{Slot: 20, Gen: 8, Tag: 8}))
			seen = seeHead(t, j, api.Reply{}, 8, tail, w)
			done(t, j, word(seen), api.Empty, 0)
		}
	}
}

// P8.1: a tail that the head would pass is brought on, and the head is looked at again, whether that took place or not; one Slot is enough.
func TestDequeueBringsTheTailOn(t *testing.T) {
	j := start(t, api.Op{Kind: api.OpDequeue})
	behind := fine
	for _, tail := range []api.Word{{Slot: 3, Gen: 5}, {Slot: 3, Gen: 5, Tag: 7, Num: 2, Mark: true}, {Slot: 3, Gen: 1, Tag: 70}} {
		for _, x := range []api.Reply{fine, {}, {Word: tail}} {
			seen := seeHead(t, j, behind, 7, tail, after)
			next(t, j, word(seen), swap(tailAt, tail, api.Word{Slot: 20, Gen: 8, Tag: tail.Tag + 1}))
			behind = x
		}
	}
	seeHead(t, j, behind, 8, farTail, after)
}

// Rule 4: what one job does is nothing to another one.
func TestJobsAreApart(t *testing.T) {
	for _, kind := range []int{api.OpEnqueue, api.OpDequeue} {
		one, two := start(t, api.Op{Kind: kind}), start(t, api.Op{Kind: kind})
		first := one.Next(fine)
		for range 9 {
			one.Next(word(api.Word{Slot: 1, Gen: 1}))
		}
		next(t, two, fine, first)
	}
}
