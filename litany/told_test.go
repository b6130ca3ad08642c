package litany

import (
	"math"
	"math/rand/v2"
	"testing"

	"sexton/api"
)

// asker makes a call; when it gives up, all that is asked from then on is answered with nothing.
type asker struct {
	make func(api.Call) (api.Reply, bool)
	gone bool
	known
}

// known is what the walk knows that is told.
type known struct {
	prev      api.Addr
	cur, next api.Word
}

func (a *asker) ask(c api.Call) api.Reply {
	if a.gone {
		return api.Reply{}
	}
	x, ok := a.make(c)
	a.gone = !ok
	return x
}

// tellWalk walks as the chapter tells it, from its first line to its last one; it answers whether the key was found.
func tellWalk(first api.Addr, key int, a *asker) bool {
one:
	if a.gone {
		return false
	}
	a.prev = first
	a.cur = a.ask(protect(a.prev, 1)).Word
	if a.cur.Mark {
		goto one
	}
	for !a.gone && a.cur.Slot != 0 {
		a.next = a.ask(protect(cell(a.cur, 2), 0)).Word
		k := a.ask(load(cell(a.cur, 0))).Word.Num
		now := a.ask(load(a.prev)).Word
		if !same(now, a.cur) {
			goto one
		}
		switch {
		case a.next.Mark:
			if !a.ask(swap(a.prev, a.cur, to(a.cur, a.next))).Ok {
				goto one
			}
			a.ask(retire(a.cur))
			a.cur = to(a.cur, a.next)
		case k >= key:
			return k == key
		default:
			a.prev = cell(a.cur, 2)
			a.ask(hold(2, 1))
			a.cur = a.next
		}
		if a.cur.Slot != 0 {
			a.ask(hold(1, 0))
		}
	}
	return false
}

// tellInsert inserts as the chapter tells it.
func tellInsert(first api.Addr, key, val int, a *asker) api.Answer {
	x := a.ask(alloc)
	if !x.Ok {
		return api.Answer{Code: api.Full}
	}
	node := x.Word
	a.ask(store(cell(node, 0), api.Word{Num: key}))
	a.ask(store(cell(node, 1), api.Word{Num: val}))
	for !a.gone {
		if tellWalk(first, key, a) {
			a.ask(api.Call{Kind: api.CallDrop, Old: node})
			return api.Answer{Code: api.Had}
		}
		a.ask(store(cell(node, 2), api.Word{Slot: a.cur.Slot, Gen: a.cur.Gen}))
		if a.ask(swap(a.prev, a.cur, to(a.cur, node))).Ok {
			break
		}
	}
	return api.Answer{Code: api.Yes}
}

// tellDelete deletes as the chapter tells it.
func tellDelete(first api.Addr, key int, a *asker) api.Answer {
	for !a.gone && tellWalk(first, key, a) {
		val := a.ask(load(cell(a.cur, 1))).Word.Num
		mark := a.next
		mark.Tag, mark.Mark = mark.Tag+1, true
		if !a.ask(swap(cell(a.cur, 2), a.next, mark)).Ok {
			continue
		}
		if a.ask(swap(a.prev, a.cur, to(a.cur, a.next))).Ok {
			a.ask(retire(a.cur))
		} else {
			tellWalk(first, key, a)
		}
		return api.Answer{Code: api.Yes, Val: val}
	}
	return api.Answer{Code: api.Empty}
}

// tellGet gets as the chapter tells it.
func tellGet(first api.Addr, key int, a *asker) api.Answer {
	if !tellWalk(first, key, a) {
		return api.Answer{Code: api.Empty}
	}
	return api.Answer{Code: api.Yes, Val: a.ask(load(cell(a.cur, 1))).Word.Num}
}

func to(w, ref api.Word) api.Word {
	return api.Word{Slot: ref.Slot, Gen: ref.Gen, Tag: w.Tag + 1}
}

func same(a, b api.Word) bool {
	return a.Slot == b.Slot && a.Tag == b.Tag && a.Num == b.Num && a.Mark == b.Mark
}

// drawn are replies drawn by chance.
type drawn struct {
	*rand.Rand
	number func() int
	good   int
	told   map[api.Addr]api.Word // what each cell had when it was asked for last
}

func draw(seed, stream uint64) *drawn {
	d := &drawn{Rand: rand.New(rand.NewPCG(seed, stream)), told: map[api.Addr]api.Word{}}
	d.number = func() int { return d.IntN(4) }
	if seed%2 == 0 {
		d.number = func() int { return far[d.IntN(len(far))] }
	}
	d.good = d.IntN(3)
	return d
}

// reply answers c.
func (d *drawn) reply(c api.Call) api.Reply {
	w := api.Word{Slot: d.number(), Gen: d.number(), Tag: d.number(), Num: d.number(), Mark: d.IntN(4) == 0}
	if d.IntN(6) == 0 {
		w.Slot = 0
	}
	// If cells never had what they had before, no look would find what it saw.
	if told, ok := d.told[c.At]; ok && c.Kind == api.CallLoad && d.IntN(6) > 0 {
		w = told
		if d.IntN(4) == 0 {
			w.Gen = d.number()
		}
	}
	x := api.Reply{Word: w, Ok: d.IntN(3) <= d.good}
	if d.told[c.At] = w; c.Kind == api.CallSwap && x.Ok {
		d.told[c.At] = c.New
	}
	return x
}

func (d *drawn) addr() api.Addr {
	return api.Addr{Slot: d.number(), Gen: d.number(), Field: d.number()}
}

// P9.1, P1: whatever is answered, a walk makes the calls that the chapter tells, knows what it tells, and comes to what it tells.
func TestWalkAsTold(t *testing.T) {
	ends := [3]int{}
	for seed := range uint64(30000) {
		d := draw(seed, 9)
		first, key := d.addr(), d.number()
		w := NewWalk(first, key)
		x := d.reply(api.Call{})
		calls, looks := 0, 0
		a := &asker{}
		a.make = func(c api.Call) (api.Reply, bool) {
			t.Helper()
			if calls++; calls > 80 {
				return api.Reply{}, false
			}
			if c == protect(first, 1) {
				looks++
			}
			of(t, w)(x, c)
			stands(t, w, a.prev, a.cur, a.next)
			x = d.reply(c)
			return x, true
		}
		found := tellWalk(first, key, a)
		if a.gone {
			continue
		}
		isOver(t, w, x, found)
		stands(t, w, a.prev, a.cur, a.next)
		switch {
		case found:
			ends[0]++
		case a.cur.Slot == 0:
			ends[1]++
		default:
			ends[2]++
		}
	}
	for i, many := range ends {
		if many < 1000 {
			t.Errorf("the end %d came %d times", i, many)
		}
	}
}

// follow holds a job call by call against what is told, whatever is answered; it answers the code to which it came, 0, if it was given up.
func follow(t *testing.T, first api.Addr, key int, op api.Op, d *drawn) int {
	t.Helper()
	j := From(first, key, op)
	x := d.reply(api.Call{})
	calls := 0
	a := &asker{make: func(c api.Call) (api.Reply, bool) {
		t.Helper()
		if calls++; calls > 120 {
			return api.Reply{}, false
		}
		next(t, j, x, c)
		x = d.reply(c)
		return x, true
	}}
	var want api.Answer
	switch op.Kind {
	case api.OpInsert:
		want = tellInsert(first, key, op.Val, a)
	case api.OpDelete:
		want = tellDelete(first, key, a)
	case api.OpGet:
		want = tellGet(first, key, a)
	}
	if a.gone {
		return 0
	}
	done(t, j, x, want.Code, want.Val)
	return want.Code
}

// P9.2, P1: whatever is answered, the job makes the calls that the chapter tells, and comes to the answers that it tells.
func TestAsTold(t *testing.T) {
	ends := map[[2]int]int{}
	for seed := range uint64(40000) {
		d := draw(seed, 90)
		op := api.Op{Kind: api.OpInsert + d.IntN(3), Key: d.number(), Val: d.number(), Tall: d.number()}
		ends[[2]int{op.Kind, follow(t, d.addr(), d.number(), op, d)}]++
	}
	for _, end := range [][2]int{
		{api.OpInsert, api.Full}, {api.OpInsert, api.Had}, {api.OpInsert, api.Yes},
		{api.OpDelete, api.Empty}, {api.OpDelete, api.Yes}, {api.OpGet, api.Empty}, {api.OpGet, api.Yes},
	} {
		if ends[end] < 500 {
			t.Errorf("the operation %d came to %d %d times", end[0], end[1], ends[end])
		}
	}
}

// P1: however often it is asked, and whatever was answered, nothing panics; who never lets a swap take place is asked for it again.
func TestSwapsThatNeverTakePlace(t *testing.T) {
	w := api.Word{Slot: 1, Gen: 1, Tag: math.MaxInt}
	for _, x := range []struct {
		op    api.Op
		mark  bool // whether the slot's Next is marked
		key   int  // the slot's
		at    api.Addr
		calls int // from one try to the next
	}{
		{in(5, 6), false, 7, root, 6},
		{in(5, 6), true, 5, root, 5},
		{out(5), false, 5, cell(w, 2), 6},
		{out(5), true, 5, root, 5},
		{get(5), true, 5, root, 5},
	} {
		j := start(t, x.op)
		swaps := 0
		reply := fine
		for range 30000 {
			c := j.Next(reply)
			reply = word(w)
			switch {
			case c.Kind == api.CallSwap:
				reply.Ok = false
				if swaps++; c.At != x.at || c.New.Tag != math.MinInt {
					t.Fatalf("%+v", c)
				}
			case c.At == cell(w, 2):
				reply.Word.Mark = x.mark
			case c.At == cell(w, 0):
				reply.Word.Num = x.key
			}
		}
		if swaps < 30000/x.calls-1 {
			t.Errorf("the operation %+v asked for %d swaps", x.op, swaps)
		}
	}
}
