package litany

import (
	"errors"
	"math"
	"testing"

	"sexton/api"
	"sexton/woe"
)

// far are numbers at and around the limits, and the ends of their type.
var far = []int{
	math.MinInt, math.MinInt + 1, -1 << 32, -2, -1, 0, 1, 2, 3, 4, 5, 6, 7, 8, 9, 254, 255, 256, 257,
	1<<30 - 1, 1 << 30, 1<<30 + 1, 1 << 32, 1<<32 + 1, math.MaxInt - 1, math.MaxInt,
}

func start(t *testing.T, op api.Op) *Job {
	t.Helper()
	j, err := Start(op)
	if j == nil || err != nil {
		t.Fatalf("Start(%+v): %v, %v", op, j, err)
	}
	return j
}

// next asks for the next call, behind the reply x.
func next(t *testing.T, j *Job, x api.Reply, want api.Call) {
	t.Helper()
	if c := j.Next(x); c != want {
		t.Fatalf("the next call is %+v, not %+v", c, want)
	}
}

// some are replies of all kinds.
var some = []api.Reply{{}, fine, {Word: api.Word{Slot: 3, Gen: 2, Tag: 9, Num: 4}, Ok: true}, {Word: api.Word{Num: -1}}, {Word: api.Word{Mark: true}}}

// done asks for the end, behind the reply x, and again, whatever is handed in.
func done(t *testing.T, j *Job, x api.Reply, code, val int) {
	t.Helper()
	want := api.Call{Kind: api.CallDone, Answer: api.Answer{Code: code, Val: val}}
	next(t, j, x, want)
	for _, x := range some {
		next(t, j, x, want)
	}
}

var fine = api.Reply{Ok: true}

func word(w api.Word) api.Reply { return api.Reply{Word: w, Ok: true} }

func number(n int) api.Reply { return word(api.Word{Num: n}) }

func load(at api.Addr) api.Call { return api.Call{Kind: api.CallLoad, At: at} }

func store(at api.Addr, w api.Word) api.Call {
	return api.Call{Kind: api.CallStore, At: at, New: w}
}

func swap(at api.Addr, old, new api.Word) api.Call {
	return api.Call{Kind: api.CallSwap, At: at, Old: old, New: new}
}

func protect(at api.Addr, i int) api.Call {
	return api.Call{Kind: api.CallProtect, At: at, I: i}
}

func hold(i, j int) api.Call { return api.Call{Kind: api.CallHold, I: i, J: j} }

func retire(w api.Word) api.Call { return api.Call{Kind: api.CallRetire, Old: w} }

func cell(w api.Word, n int) api.Addr { return api.Addr{Slot: w.Slot, Gen: w.Gen, Field: n} }

// The calls that hang on nothing, and where the list stands that has a root.
var (
	alloc = api.Call{Kind: api.CallAlloc}
	root  = api.Addr{}
)

func in(key, val int) api.Op { return api.Op{Kind: api.OpInsert, Key: key, Val: val} }

func out(key int) api.Op { return api.Op{Kind: api.OpDelete, Key: key} }

func get(key int) api.Op { return api.Op{Kind: api.OpGet, Key: key} }

// checkStart looks at what is told of an operation.
func checkStart(t *testing.T, op api.Op) {
	t.Helper()
	good := false
	if op.Key >= 0 && op.Key <= 255 {
		insert := op.Kind == 6 && op.Val >= 0 && op.Val <= 1073741824 && op.Tall >= 0 && op.Tall <= 3
		good = insert || (op.Kind == 7 || op.Kind == 8) && op.Val == 0 && op.Tall == 0
	}
	if Good(op) != good {
		t.Errorf("Good(%+v): %v", op, !good)
	}
	can := good && op.Tall == 0
	j, err := Start(op)
	if can != (j != nil) || can != (err == nil) || !can && (!errors.Is(err, api.ErrArg) || woe.Code(err) != 1) {
		t.Errorf("Start(%+v): %v, %v", op, j, err)
	}
}

// P9.2: what can be, at all edges.
func TestStart(t *testing.T) {
	for _, a := range far {
		for kind := range 10 {
			for _, b := range []int{math.MinInt, -1, 0, 1, 3, 4, math.MaxInt} {
				for _, c := range []int{-1, 0, 255} {
					checkStart(t, api.Op{Kind: kind, Key: a, Val: b, Tall: c})
					checkStart(t, api.Op{Kind: kind, Key: a, Val: c, Tall: b})
					checkStart(t, api.Op{Kind: kind, Key: c, Val: a, Tall: b})
					checkStart(t, api.Op{Kind: kind, Key: b, Val: a, Tall: c})
					checkStart(t, api.Op{Kind: kind, Key: c, Val: b, Tall: a})
				}
			}
		}
		for _, b := range far {
			checkStart(t, api.Op{Kind: a, Key: b})
			checkStart(t, api.Op{Kind: a, Val: b})
			checkStart(t, api.Op{Kind: a, Tall: b})
		}
	}
}

// P9.2, rule 5: a nil job.
func TestNilJob(t *testing.T) {
	var j *Job
	for _, x := range some {
		next(t, j, x, api.Call{})
	}
}

// P1: of a kind that isn't one of a list's operations nothing is asked for, and nothing panics.
func TestFromOfAnotherKind(t *testing.T) {
	for _, kind := range []int{math.MinInt, -1, 0, api.OpPush, api.OpDequeue, 9, math.MaxInt} {
		j := From(root, 5, api.Op{Kind: kind, Key: 5})
		for _, x := range some {
			next(t, j, x, api.Call{})
		}
	}
}

// P9.2: the first call is the first one, whatever is handed in with it.
func TestTheFirstReplyIsNothing(t *testing.T) {
	for _, x := range some {
		next(t, start(t, in(5, 6)), x, alloc)
		next(t, start(t, out(5)), x, protect(root, 1))
		next(t, start(t, get(5)), x, protect(root, 1))
	}
}

// Slots that are met, one behind the other, as the words of the cells ahead of them.
var (
	three = api.Word{Slot: 30, Gen: 3, Tag: 33, Num: 8}
	five  = api.Word{Slot: 50, Gen: 5, Tag: 55, Num: 6}
	nine  = api.Word{Slot: 90, Gen: 9, Tag: 99, Num: 2}
	ended = api.Word{Gen: 4, Tag: 77, Num: 3}
)

// asks asks for the next call, of a walk or of a job that walks, behind the reply x.
type asks func(x api.Reply, want api.Call)

// meet goes from the look at a slot's Next, behind it that, to the look whether the cell ahead is the same still.
func (a asks) meet(x api.Reply, prev api.Addr, cur, behind api.Word, key int) {
	a(x, protect(cell(cur, 2), 0))
	a(word(behind), load(cell(cur, 0)))
	a(number(key), load(prev))
}

// pass goes on from a slot that was met to that look of the one behind it.
func (a asks) pass(cur, behind, after api.Word, key int) {
	a(word(cur), hold(2, 1))
	a(fine, hold(1, 0))
	a.meet(fine, cell(cur, 2), behind, after, key)
}

// walkIn goes by the slots 3 and 5 to the look whether the cell ahead of 5 is the same still, behind which are those.
func walkIn(a asks, x api.Reply, first api.Addr, after api.Word) {
	a(x, protect(first, 1))
	a.meet(word(three), first, three, five, 3)
	a.pass(three, five, after, 5)
}

// by lets a job be asked.
func by(t *testing.T, j *Job) asks {
	return func(x api.Reply, want api.Call) {
		t.Helper()
		next(t, j, x, want)
	}
}

// filledNode brings an insertion on the list from a cell on to its walk; the node is 4 in the generation 6.
func filledNode(t *testing.T, first api.Addr, key, val int) *Job {
	t.Helper()
	j := From(first, key, api.Op{Kind: api.OpInsert, Key: 77, Val: val, Tall: 2})
	next(t, j, api.Reply{}, alloc)
	next(t, j, word(api.Word{Slot: 4, Gen: 6, Tag: 2, Num: 3}), store(api.Addr{Slot: 4, Gen: 6, Field: 0}, api.Word{Num: key}))
	next(t, j, fine, store(api.Addr{Slot: 4, Gen: 6, Field: 1}, api.Word{Num: val}))
	return j
}

// Where lists begin.
var firsts = []api.Addr{root, {Field: 7}, {Slot: 2, Gen: 5, Field: 2}, {Slot: -1, Gen: math.MaxInt, Field: math.MinInt}}

// P9.2: line by line; a swap that didn't take place begins again with a walk from the first cell on, with the same node.
func TestInsert(t *testing.T) {
	for _, first := range firsts {
		for _, val := range []int{0, 1, 1 << 30} {
			j := filledNode(t, first, 4, val)
			behind := fine
			for tries := range 4 {
				walkIn(by(t, j), behind, first, nine)
				next(t, j, word(five), store(api.Addr{Slot: 4, Gen: 6, Field: 2}, api.Word{Slot: 50, Gen: 5}))
				next(t, j, fine, swap(cell(three, 2), five, api.Word{Slot: 4, Gen: 6, Tag: 56}))
				behind = api.Reply{Word: api.Word{Slot: 50, Tag: tries}}
			}
			walkIn(by(t, j), behind, first, nine)
			next(t, j, word(five), store(api.Addr{Slot: 4, Gen: 6, Field: 2}, api.Word{Slot: 50, Gen: 5}))
			next(t, j, fine, swap(cell(three, 2), five, api.Word{Slot: 4, Gen: 6, Tag: 56}))
			done(t, j, fine, api.Yes, 0)
		}
	}
}

// P9.2: into nothing, and behind all.
func TestInsertAtTheEnd(t *testing.T) {
	j := filledNode(t, root, 9, 1)
	next(t, j, fine, protect(root, 1))
	next(t, j, word(ended), store(api.Addr{Slot: 4, Gen: 6, Field: 2}, api.Word{Gen: 4}))
	next(t, j, fine, swap(root, ended, api.Word{Slot: 4, Gen: 6, Tag: 78}))
	done(t, j, fine, api.Yes, 0)
	j = filledNode(t, root, 9, 1)
	walkIn(by(t, j), fine, root, ended)
	next(t, j, word(five), hold(2, 1))
	next(t, j, fine, store(api.Addr{Slot: 4, Gen: 6, Field: 2}, api.Word{Gen: 4}))
	next(t, j, fine, swap(cell(five, 2), ended, api.Word{Slot: 4, Gen: 6, Tag: 78}))
	done(t, j, fine, api.Yes, 0)
}

// P9.2: a key that is there already; the node is given back, at the first walk or at a later one.
func TestInsertHad(t *testing.T) {
	for tries := range 3 {
		j := filledNode(t, root, 5, 1)
		behind := fine
		for range tries {
			next(t, j, behind, protect(root, 1))
			next(t, j, word(ended), store(api.Addr{Slot: 4, Gen: 6, Field: 2}, api.Word{Gen: 4}))
			next(t, j, fine, swap(root, ended, api.Word{Slot: 4, Gen: 6, Tag: 78}))
			behind = api.Reply{}
		}
		walkIn(by(t, j), behind, root, nine)
		next(t, j, word(five), api.Call{Kind: api.CallDrop, Old: api.Word{Slot: 4, Gen: 6, Tag: 2, Num: 3}})
		done(t, j, word(api.Word{Num: 9}), api.Had, 0)
	}
}

// P9.2: without a slot nothing else is asked for.
func TestInsertFull(t *testing.T) {
	for _, w := range []api.Word{{}, {Slot: 3, Gen: 1}, {Num: -1}} {
		j := start(t, in(5, 6))
		next(t, j, fine, alloc)
		done(t, j, api.Reply{Word: w}, api.Full, 0)
	}
}

// markIt goes from the beginning of a deletion to the answer of the swap that marks the slot 5.
func markIt(t *testing.T, j *Job, behind api.Reply, first api.Addr, val int, after api.Word) {
	t.Helper()
	walkIn(by(t, j), behind, first, after)
	next(t, j, word(five), load(cell(five, 1)))
	want := after
	want.Tag, want.Mark = after.Tag+1, true
	next(t, j, number(val), swap(cell(five, 2), after, want))
}

// P9.2: line by line; a mark that wasn't set begins again; the value is the last one that was read.
func TestDelete(t *testing.T) {
	for _, first := range firsts {
		for _, val := range []int{0, 1, 1 << 30, -1, math.MinInt, math.MaxInt} {
			for _, after := range []api.Word{nine, ended} {
				j := From(first, 5, out(200))
				behind := fine
				for tries := range 3 {
					markIt(t, j, behind, first, tries, after)
					behind = api.Reply{Word: after}
				}
				markIt(t, j, behind, first, val, after)
				next(t, j, word(after), swap(cell(three, 2), five, api.Word{Slot: after.Slot, Gen: after.Gen, Tag: 56}))
				next(t, j, fine, retire(five))
				done(t, j, number(3), api.Yes, val)
			}
		}
	}
}

// P9.2: a slot that was marked, and couldn't be led past, is left to a walk, whatever that comes to.
func TestDeleteLeavesItToAWalk(t *testing.T) {
	for _, found := range []bool{false, true} {
		j := start(t, out(5))
		markIt(t, j, fine, root, 8, nine)
		next(t, j, fine, swap(cell(three, 2), five, api.Word{Slot: 90, Gen: 9, Tag: 56}))
		if found {
			walkIn(by(t, j), api.Reply{}, root, nine)
			done(t, j, word(five), api.Yes, 8)
			continue
		}
		next(t, j, api.Reply{Word: three}, protect(root, 1))
		done(t, j, word(ended), api.Yes, 8)
	}
	// The walk leads past what is marked, as any other one does, begins again as any other one does, and nothing is retired twice.
	j := start(t, out(5))
	a := by(t, j)
	markIt(t, j, fine, root, 8, nine)
	next(t, j, fine, swap(cell(three, 2), five, api.Word{Slot: 90, Gen: 9, Tag: 56}))
	gone := nine
	gone.Tag, gone.Mark = 100, true
	walkIn(a, api.Reply{}, root, gone)
	a(word(five), swap(cell(three, 2), five, api.Word{Slot: 90, Gen: 9, Tag: 56}))
	walkIn(a, api.Reply{}, root, gone)
	a(word(five), swap(cell(three, 2), five, api.Word{Slot: 90, Gen: 9, Tag: 56}))
	a(fine, retire(five))
	a(fine, hold(1, 0))
	a.meet(fine, cell(three, 2), nine, ended, 9)
	done(t, j, word(api.Word{Slot: 90, Gen: 9, Tag: 56}), api.Yes, 8)
}

// P9.2: a value that was found, whatever it is.
func TestGet(t *testing.T) {
	for _, first := range firsts {
		for _, val := range []int{0, 1, 1 << 30, -1, math.MinInt, math.MaxInt} {
			j := From(first, 5, get(200))
			walkIn(by(t, j), fine, first, nine)
			next(t, j, word(five), load(cell(five, 1)))
			done(t, j, api.Reply{Word: api.Word{Slot: 2, Gen: 2, Tag: 2, Num: val}}, api.Yes, val)
		}
	}
}

// P9.2: a key that isn't there: in nothing, ahead of a greater one, behind all; a deletion tells it at a later walk, too.
func TestEmpty(t *testing.T) {
	for _, op := range []api.Op{out(4), get(4)} {
		j := start(t, op)
		next(t, j, fine, protect(root, 1))
		done(t, j, word(ended), api.Empty, 0)
		j = start(t, op)
		walkIn(by(t, j), fine, root, nine)
		done(t, j, word(five), api.Empty, 0)
		op.Key = 6
		j = start(t, op)
		walkIn(by(t, j), fine, root, ended)
		next(t, j, word(five), hold(2, 1))
		done(t, j, fine, api.Empty, 0)
	}
	j := start(t, out(5))
	markIt(t, j, fine, root, 8, nine)
	next(t, j, api.Reply{}, protect(root, 1))
	done(t, j, word(ended), api.Empty, 0)
}

// Rule 4: what one job does is nothing to another one.
func TestJobsAreApart(t *testing.T) {
	for _, op := range []api.Op{in(5, 6), out(5), get(5)} {
		one, two := start(t, op), start(t, op)
		first := one.Next(fine)
		for range 9 {
			one.Next(word(api.Word{Slot: 1, Gen: 1}))
		}
		next(t, two, fine, first)
	}
}
