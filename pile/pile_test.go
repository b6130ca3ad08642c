package pile

import (
	"errors"
	"math"
	"testing"

	"sexton/api"
	"sexton/woe"
)

// far are numbers at and around the limits, and the ends of their type.
var far = []int{
	math.MinInt, math.MinInt + 1, -1 << 32, -2, -1, 0, 1, 2, 3, 4, 5, 6, 7, 8, 9, 255, 256, 257,
	1<<30 - 1, 1 << 30, 1<<30 + 1, 1 << 32, 1<<32 + 1, math.MaxInt - 1, math.MaxInt,
}

func start(t *testing.T, op api.Op) *Job {
	t.Helper()
	j, err := Start(op)
	if j == nil || err != nil {
		t.Fatalf("Start(%+v): %v, %v", op, j, err)
	}
	return j
}

// next asks for the next call, behind the reply x.
func next(t *testing.T, j *Job, x api.Reply, want api.Call) {
	t.Helper()
	if c := j.Next(x); c != want {
		t.Fatalf("the next call is %+v, not %+v", c, want)
	}
}

// done asks for the end, behind the reply x, and again, whatever is handed in.
func done(t *testing.T, j *Job, x api.Reply, code, val int) {
	t.Helper()
	want := api.Call{Kind: api.CallDone, Answer: api.Answer{Code: code, Val: val}}
	for _, x := range []api.Reply{x, {}, fine, {Word: api.Word{Slot: 3, Gen: 2, Tag: 9, Num: 4}, Ok: true}, {Word: api.Word{Num: -1}}, x} {
		next(t, j, x, want)
	}
}

var fine = api.Reply{Ok: true}

func word(w api.Word) api.Reply { return api.Reply{Word: w, Ok: true} }

func load(at api.Addr) api.Call { return api.Call{Kind: api.CallLoad, At: at} }

func store(at api.Addr, w api.Word) api.Call {
	return api.Call{Kind: api.CallStore, At: at, New: w}
}

func swap(at api.Addr, old, new api.Word) api.Call {
	return api.Call{Kind: api.CallSwap, At: at, Old: old, New: new}
}

// The calls that hang on nothing, and where things stand.
var (
	alloc   = api.Call{Kind: api.CallAlloc}
	protect = api.Call{Kind: api.CallProtect}
	top     = api.Addr{}
)

// P7.1: what can be, at all edges.
func TestStart(t *testing.T) {
	check := func(op api.Op) {
		can := false
		if op.Key == 0 && op.Tall == 0 {
			push := op.Kind == 1 && op.Val >= 0 && op.Val <= 1073741824
			can = push || op.Kind == 2 && op.Val == 0 || op.Kind == 3 && op.Val == 0
		}
		j, err := Start(op)
		if can != (j != nil) || can != (err == nil) || !can && (!errors.Is(err, api.ErrArg) || woe.Code(err) != 1) {
			t.Errorf("Start(%+v): %v, %v", op, j, err)
		}
	}
	for _, a := range far {
		for kind := range 10 {
			for _, b := range []int{math.MinInt, -1, 0, 1, math.MaxInt} {
				check(api.Op{Kind: kind, Val: a, Key: b})
				check(api.Op{Kind: kind, Val: a, Tall: b})
				check(api.Op{Kind: kind, Val: b, Key: a})
				check(api.Op{Kind: kind, Val: b, Tall: a})
			}
		}
		for _, b := range far {
			check(api.Op{Kind: a, Val: b})
		}
	}
}

// P7.1, rule 5: a nil job.
func TestNilJob(t *testing.T) {
	var j *Job
	for _, x := range []api.Reply{{}, fine, word(api.Word{Slot: 1, Gen: 1})} {
		next(t, j, x, api.Call{})
	}
}

// P7.1: the first call is the first one, whatever is handed in with it.
func TestTheFirstReplyIsNothing(t *testing.T) {
	for kind, want := range map[int]api.Call{api.OpPush: alloc, api.OpPop: protect, api.OpPeek: protect} {
		for _, x := range []api.Reply{{}, fine, word(api.Word{Slot: 7, Gen: 1, Tag: 2, Num: 3, Mark: true}), {Word: api.Word{Num: -1}}} {
			next(t, start(t, api.Op{Kind: kind}), x, want)
		}
	}
}

// P7.1: line by line; a swap that didn't take place begins again with the look at the root.
func TestPush(t *testing.T) {
	for _, val := range []int{0, 1, 1 << 30} {
		j := start(t, api.Op{Kind: api.OpPush, Val: val})
		next(t, j, api.Reply{}, alloc)
		node := api.Word{Slot: 4, Gen: 6}
		next(t, j, word(node), store(api.Addr{Slot: 4, Gen: 6, Field: 1}, api.Word{Num: val}))
		behind := fine
		for tries := range 4 {
			next(t, j, behind, load(top))
			seen := api.Word{Slot: 9 - tries, Gen: 2, Tag: 7 + tries, Num: 3, Mark: true}
			next(t, j, word(seen), store(api.Addr{Slot: 4, Gen: 6, Field: 2}, api.Word{Slot: 9 - tries, Gen: 2}))
			next(t, j, fine, swap(top, seen, api.Word{Slot: 4, Gen: 6, Tag: 8 + tries}))
			behind = api.Reply{Word: api.Word{Slot: 8, Gen: 8, Tag: 8}}
		}
		done(t, j, word(api.Word{Slot: 1, Num: 5}), api.Yes, 0)
	}
}

// P7.1: on nothing.
func TestPushOnNothing(t *testing.T) {
	j := start(t, api.Op{Kind: api.OpPush, Val: 5})
	next(t, j, fine, alloc)
	next(t, j, word(api.Word{Slot: 1, Gen: 1}), store(api.Addr{Slot: 1, Gen: 1, Field: 1}, api.Word{Num: 5}))
	next(t, j, fine, load(top))
	next(t, j, word(api.Word{}), store(api.Addr{Slot: 1, Gen: 1, Field: 2}, api.Word{}))
	next(t, j, fine, swap(top, api.Word{}, api.Word{Slot: 1, Gen: 1, Tag: 1}))
	done(t, j, fine, api.Yes, 0)
}

// P7.1: without a slot nothing else is asked for.
func TestPushFull(t *testing.T) {
	for _, w := range []api.Word{{}, {Slot: 3, Gen: 1}, {Num: -1}} {
		j := start(t, api.Op{Kind: api.OpPush, Val: 5})
		next(t, j, fine, alloc)
		done(t, j, api.Reply{Word: w}, api.Full, 0)
	}
}

// P7.1: line by line; a swap that didn't take place begins again.
func TestPop(t *testing.T) {
	j := start(t, api.Op{Kind: api.OpPop})
	behind := fine
	for tries := range 4 {
		next(t, j, behind, protect)
		seen := api.Word{Slot: 3 + tries, Gen: 5, Tag: 40 + tries, Num: 2, Mark: true}
		next(t, j, word(seen), load(api.Addr{Slot: 3 + tries, Gen: 5, Field: 2}))
		below := api.Word{Slot: 20 + tries, Gen: 8, Tag: 90, Num: 1, Mark: true}
		next(t, j, word(below), swap(top, seen, api.Word{Slot: 20 + tries, Gen: 8, Tag: 41 + tries}))
		behind = api.Reply{Word: api.Word{Slot: 8, Gen: 8, Tag: 8}}
	}
	last := api.Word{Slot: 6, Gen: 5, Tag: 43, Num: 2, Mark: true}
	next(t, j, word(last), load(api.Addr{Slot: 6, Gen: 5, Field: 1}))
	next(t, j, word(api.Word{Slot: 2, Gen: 2, Tag: 2, Num: 77}), api.Call{Kind: api.CallRetire, Old: last})
	done(t, j, word(api.Word{Num: 3}), api.Yes, 77)
}

// P7.1: whether there is something hangs on the slot alone, at each look.
func TestPopOfNothing(t *testing.T) {
	for _, w := range []api.Word{{}, {Tag: 7}, {Gen: 3, Tag: 7, Num: 9, Mark: true}} {
		j := start(t, api.Op{Kind: api.OpPop})
		next(t, j, fine, protect)
		done(t, j, word(w), api.Empty, 0)
		j = start(t, api.Op{Kind: api.OpPop})
		next(t, j, fine, protect)
		next(t, j, word(api.Word{Slot: 1, Gen: 1, Tag: 1}), load(api.Addr{Slot: 1, Gen: 1, Field: 2}))
		next(t, j, word(api.Word{}), swap(top, api.Word{Slot: 1, Gen: 1, Tag: 1}, api.Word{Tag: 2}))
		next(t, j, api.Reply{}, protect)
		done(t, j, word(w), api.Empty, 0)
	}
}

// P7.1
func TestPeek(t *testing.T) {
	for _, val := range []int{0, 1, 1 << 30, -1, math.MinInt, math.MaxInt} {
		j := start(t, api.Op{Kind: api.OpPeek})
		next(t, j, fine, protect)
		next(t, j, word(api.Word{Slot: 3, Gen: 5, Tag: 4, Num: 2, Mark: true}), load(api.Addr{Slot: 3, Gen: 5, Field: 1}))
		done(t, j, word(api.Word{Slot: 2, Gen: 2, Tag: 2, Num: val}), api.Yes, val)
	}
	for _, w := range []api.Word{{}, {Tag: 7}, {Gen: 3, Tag: 7, Num: 9, Mark: true}} {
		j := start(t, api.Op{Kind: api.OpPeek})
		next(t, j, fine, protect)
		done(t, j, word(w), api.Empty, 0)
	}
}

// Rule 4: what one job does is nothing to another one.
func TestJobsAreApart(t *testing.T) {
	for _, kind := range []int{api.OpPush, api.OpPop, api.OpPeek} {
		one, two := start(t, api.Op{Kind: kind}), start(t, api.Op{Kind: kind})
		first := one.Next(fine)
		for range 9 {
			one.Next(word(api.Word{Slot: 1, Gen: 1}))
		}
		next(t, two, fine, first)
	}
}
