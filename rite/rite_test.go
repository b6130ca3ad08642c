package rite

import (
	"errors"
	"math"
	"slices"
	"testing"

	"sexton/api"
)

// far are numbers at and around the limits, and the ends of their type.
var far = []int{
	math.MinInt, math.MinInt + 1, -1 << 40, -2, -1, 0, 1, 2, 3, 4, 5, 6, 7, 8, 9, 10, 11, 12, 13, 63, 64, 65, 256 + 1,
	1 << 32, 1<<32 + 1, 1<<40 + 1, math.MaxInt - 1, math.MaxInt,
}

var engines = []int{api.Never, api.Hazard, api.Eras, api.Epochs, api.Interval}

// open answers a rite that can be.
func open(t *testing.T, engine, me, threads, notes int) *Rite {
	t.Helper()
	r, err := New(engine, me, threads, notes)
	if r == nil || err != nil {
		t.Fatalf("New(%d, %d, %d, %d): %v, %v", engine, me, threads, notes, r, err)
	}
	return r
}

func begin(t *testing.T, r *Rite, c api.Call) {
	t.Helper()
	if err := r.Begin(c); err != nil {
		t.Fatalf("Begin(%+v): %v", c, err)
	}
}

// step asks for the next access, and answers it.
func step(t *testing.T, r *Rite, want api.Access, x api.Reply) {
	t.Helper()
	if a, ok := r.Next(); !ok || a != want {
		t.Fatalf("the next access is %+v, %t, not %+v", a, ok, want)
	}
	if err := r.Took(x); err != nil {
		t.Fatal(err)
	}
}

// view is all that can be told of a rite.
type view struct {
	access api.Access
	ok     bool
	busy   bool
	reply  api.Reply
	freed  int
	notes  [3]api.Note
	many   int
}

func tell(r *Rite) view {
	v := view{busy: r.Busy(), reply: r.Reply(), freed: r.Freed(), many: len(r.Notes())}
	v.access, v.ok = r.Next()
	copy(v.notes[:], r.Notes())
	return v
}

// over asks whether no call is under way, and what the last one came to.
func over(t *testing.T, r *Rite, want api.Reply) {
	t.Helper()
	a, ok := r.Next()
	if r.Busy() || ok || a != (api.Access{}) || r.Reply() != want {
		t.Errorf("busy %t, next %+v %t, reply %+v, not %+v", r.Busy(), a, ok, r.Reply(), want)
	}
	if err := r.Took(api.Reply{Ok: true}); !errors.Is(err, api.ErrState) {
		t.Errorf("Took: %v", err)
	}
}

func load(cell int) api.Access { return api.Access{Kind: api.Load, At: api.Addr{Field: cell}} }

func store(cell int, w api.Word) api.Access {
	return api.Access{Kind: api.Store, At: api.Addr{Field: cell}, New: w}
}

func free(slot, gen int) api.Access {
	return api.Access{Kind: api.Free, Old: api.Word{Slot: slot, Gen: gen}}
}

func num(n int) api.Reply { return api.Reply{Word: api.Word{Num: n}, Ok: true} }

func word(w api.Word) api.Reply { return api.Reply{Word: w, Ok: true} }

var fine = api.Reply{Ok: true}

// P6.1: what can be, at all edges.
func TestNew(t *testing.T) {
	within := func(n, low, high int) bool { return low <= n && n <= high }
	check := func(engine, me, threads, notes int) {
		can := within(engine, 1, 5) && within(threads, 1, 6) && within(me, 0, threads-1) && within(notes, 1, 64)
		r, err := New(engine, me, threads, notes)
		if can && (r == nil || err != nil || tell(r) != view{}) {
			t.Errorf("New(%d, %d, %d, %d): %+v, %v", engine, me, threads, notes, r, err)
		}
		if !can && (r != nil || !errors.Is(err, api.ErrArg)) {
			t.Errorf("New(%d, %d, %d, %d): %+v, %v", engine, me, threads, notes, r, err)
		}
	}
	for _, a := range far {
		check(a, 0, 1, 1)
		for _, b := range far {
			check(api.Hazard, a, b, 64)
			check(a, 1, 2, b)
			check(a, b, 6, 5)
			check(api.Interval, 2, a, b)
			check(api.Never, a, 3, b)
		}
	}
}

// P6.1, P6.2, rule 5: a nil rite.
func TestNil(t *testing.T) {
	var r *Rite
	for _, kind := range far {
		if err := r.Begin(api.Call{Kind: kind, I: -1}); !errors.Is(err, api.ErrNil) {
			t.Error(kind, err)
		}
	}
	for _, x := range []api.Reply{{}, fine} {
		if err := r.Took(x); !errors.Is(err, api.ErrNil) {
			t.Error(err)
		}
	}
	if tell(r) != (view{}) || r.Notes() != nil {
		t.Error(tell(r))
	}
}

// P6.2: which calls can be, by each engine; one that can't changes nothing.
func TestBegin(t *testing.T) {
	within := func(n, low, high int) bool { return low <= n && n <= high }
	for _, engine := range engines {
		for _, kind := range far {
			for _, i := range far {
				for _, j := range []int{math.MinInt, -1, 0, 8, 9, math.MaxInt} {
					can := within(kind, 1, 11)
					if kind == api.CallProtect || kind == api.CallHold {
						can = within(i, 0, 8) && within(j, 0, 8)
					}
					r := open(t, engine, 0, 2, 3)
					err := r.Begin(api.Call{Kind: kind, I: i, J: j})
					if can != (err == nil) || !can && !errors.Is(err, api.ErrArg) {
						t.Errorf("engine %d, kind %d, %d, %d: %v", engine, kind, i, j, err)
					}
					if !can && tell(r) != (view{}) {
						t.Errorf("engine %d, kind %d, %d, %d: %+v", engine, kind, i, j, tell(r))
					}
				}
			}
		}
	}
}

// P6.2: while a call is under way no other one begins, whether it can be or not; the one goes on as if it hadn't been tried.
func TestBeginWhileBusy(t *testing.T) {
	at := api.Addr{Slot: 4, Gen: 2, Field: 7}
	for _, engine := range engines {
		r := open(t, engine, 0, 2, 3)
		begin(t, r, api.Call{Kind: api.CallLoad, At: at})
		before := tell(r)
		for _, kind := range far {
			if err := r.Begin(api.Call{Kind: kind, I: kind}); !errors.Is(err, api.ErrState) {
				t.Errorf("engine %d, kind %d: %v", engine, kind, err)
			}
		}
		if after := tell(r); after != before || !after.busy {
			t.Errorf("engine %d: %+v, not %+v", engine, after, before)
		}
		step(t, r, api.Access{Kind: api.Load, At: at}, num(9))
		over(t, r, num(9))
	}
}

// P6.2: Took without a call under way is an error, and changes nothing.
func TestTookIdle(t *testing.T) {
	for _, engine := range engines {
		r := open(t, engine, 0, 1, 1)
		over(t, r, api.Reply{})
		if tell(r) != (view{}) {
			t.Errorf("engine %d: %+v", engine, tell(r))
		}
		begin(t, r, api.Call{Kind: api.CallLoad})
		step(t, r, load(0), num(5))
		for range 3 {
			over(t, r, num(5))
		}
		if err := r.Begin(api.Call{Kind: api.CallDone}); !errors.Is(err, api.ErrArg) {
			t.Error(err)
		}
		over(t, r, num(5))
	}
}

// P6.2: till a call is over the reply is that of the one ahead of it; Next asks again and again for the same.
func TestReplyOfTheLastCall(t *testing.T) {
	for _, engine := range engines {
		r := open(t, engine, 0, 1, 1)
		for n := range 5 {
			begin(t, r, api.Call{Kind: api.CallLoad, At: api.Addr{Field: n}})
			for range 3 {
				want := api.Reply{}
				if n > 0 {
					want = num(n - 1)
				}
				if a, ok := r.Next(); !ok || a != load(n) || !r.Busy() || r.Reply() != want {
					t.Errorf("engine %d: %+v, %t, %+v", engine, a, ok, r.Reply())
				}
			}
			step(t, r, load(n), num(n))
			over(t, r, num(n))
		}
	}
}

// P6.2: an access that the structure asks for is that one, and its answer the call's, whatever it is.
func TestTouch(t *testing.T) {
	at := api.Addr{Slot: 3, Gen: 7, Field: 2}
	old, next := api.Word{Slot: 1, Gen: 2, Tag: 3, Num: 4}, api.Word{Slot: 5, Gen: 6, Tag: 7, Num: -8, Mark: true}
	for _, engine := range engines {
		r := open(t, engine, 0, 1, 1)
		for call, kind := range map[int]int{api.CallLoad: api.Load, api.CallStore: api.Store, api.CallSwap: api.Swap} {
			for _, x := range []api.Reply{{}, fine, {Word: old}, {Word: api.Word{Num: -1}}, {Word: next, Ok: true}} {
				begin(t, r, api.Call{Kind: call, At: at, Old: old, New: next, I: -4, J: 99, Answer: api.Answer{Code: 1, Val: 2}})
				step(t, r, api.Access{Kind: kind, At: at, Old: old, New: next}, x)
				over(t, r, x)
			}
		}
	}
}

// P6.1: notes are told as new memory, in the order in which they were retired; each is there till its slot is freed, and a slot that isn't freed stays noted.
func TestNotes(t *testing.T) {
	r := open(t, api.Hazard, 0, 1, 4)
	var want []api.Note
	for _, slot := range []int{7, 2, 9} {
		begin(t, r, api.Call{Kind: api.CallRetire, Old: api.Word{Slot: slot, Gen: slot + 1, Tag: 5, Num: 3, Mark: true}})
		over(t, r, fine)
		want = append(want, api.Note{Ref: api.Word{Slot: slot, Gen: slot + 1}})
		got := r.Notes()
		if !slices.Equal(got, want) || r.Freed() != 0 {
			t.Fatalf("%v, %d", got, r.Freed())
		}
		got = got[:cap(got)]
		clear(got)
		if !slices.Equal(r.Notes(), want) {
			t.Fatal("the notes hang on what was told of them")
		}
	}
	begin(t, r, api.Call{Kind: api.CallScan})
	for n := range api.Hazards {
		step(t, r, load(25+n), fine)
	}
	before := r.Notes()
	step(t, r, free(7, 8), fine)
	if !slices.Equal(before, want) || !slices.Equal(r.Notes(), want[1:]) || r.Freed() != 1 {
		t.Fatalf("%v, %v, %d", before, r.Notes(), r.Freed())
	}
	step(t, r, free(2, 3), api.Reply{})
	if !slices.Equal(r.Notes(), want[1:]) || r.Freed() != 1 {
		t.Fatalf("%v, %d", r.Notes(), r.Freed())
	}
	step(t, r, free(9, 10), fine)
	over(t, r, fine)
	if !slices.Equal(r.Notes(), want[1:2]) || r.Freed() != 2 {
		t.Fatalf("%v, %d", r.Notes(), r.Freed())
	}
}

// Rule 4: what one rite does is nothing to another one.
func TestRitesAreApart(t *testing.T) {
	for _, engine := range engines {
		one, two := open(t, engine, 0, 2, 2), open(t, engine, 0, 2, 2)
		for _, kind := range []int{api.CallEnter, api.CallProtect, api.CallRetire, api.CallLoad} {
			begin(t, one, api.Call{Kind: kind, Old: api.Word{Slot: 3}})
			for range 20 {
				if one.Busy() {
					step(t, one, tell(one).access, word(api.Word{Slot: 1, Num: 1}))
				}
			}
		}
		if tell(two) != (view{}) {
			t.Errorf("engine %d: %+v", engine, tell(two))
		}
	}
}
