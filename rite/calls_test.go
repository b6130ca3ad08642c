package rite

import (
	"slices"
	"testing"

	"sexton/api"
)

// swapClock is how the clock is turned.
func swapClock(old api.Word, num int) api.Access {
	return api.Access{Kind: api.Swap, At: api.Addr{Field: 24}, Old: old, New: api.Word{Num: num, Tag: old.Tag + 1}}
}

// span is a span's word.
func span(low, high int) api.Word { return api.Word{Num: low, Tag: high, Mark: true} }

// P6.2: the calls that take no access are over at once, and answer Ok.
func TestOverAtOnce(t *testing.T) {
	calls := map[int][]int{
		api.Never:    {api.CallEnter, api.CallLeave, api.CallHold, api.CallRetire, api.CallScan},
		api.Hazard:   {api.CallEnter, api.CallLeave, api.CallHold, api.CallRetire},
		api.Eras:     {api.CallEnter, api.CallLeave, api.CallHold},
		api.Epochs:   {api.CallLeave, api.CallHold},
		api.Interval: {api.CallLeave, api.CallHold},
	}
	for engine, kinds := range calls {
		for kind := api.CallEnter; kind <= api.CallScan; kind++ {
			r := open(t, engine, 1, 3, 2)
			begin(t, r, api.Call{Kind: kind, Old: api.Word{Slot: 2, Gen: 1}, I: 1, J: 2})
			if !slices.Contains(kinds, kind) {
				if !r.Busy() || r.Reply() != (api.Reply{}) {
					t.Errorf("engine %d, kind %d is over: %+v", engine, kind, r.Reply())
				}
				continue
			}
			over(t, r, fine)
			if want := engine == api.Hazard && kind == api.CallRetire; (len(r.Notes()) == 1) != want {
				t.Errorf("engine %d, kind %d: %v", engine, kind, r.Notes())
			}
		}
	}
}

// Examples: Hazard: Protect of a root that has slot 3: load, store, load: over. Never: Protect is one load.
func TestExamples(t *testing.T) {
	three := api.Word{Slot: 3, Gen: 2, Tag: 8, Num: 1}
	r := open(t, api.Hazard, 0, 1, 1)
	begin(t, r, api.Call{Kind: api.CallProtect, At: api.Addr{Field: 5}})
	step(t, r, load(5), word(three))
	step(t, r, store(25, api.Word{Slot: 3, Gen: 2}), fine)
	step(t, r, load(5), word(three))
	over(t, r, word(three))
	r = open(t, api.Never, 0, 1, 1)
	begin(t, r, api.Call{Kind: api.CallProtect, At: api.Addr{Field: 5}})
	step(t, r, load(5), word(three))
	over(t, r, word(three))
}

// P6.2: by hazard pointers nothing is announced of a word without a slot, nor what is announced there already; another announcement says nothing.
func TestProtectByHazard(t *testing.T) {
	r := open(t, api.Hazard, 2, 3, 1)
	protect := api.Call{Kind: api.CallProtect, At: api.Addr{Slot: 9, Gen: 4, Field: 2}, I: 8}
	at := api.Access{Kind: api.Load, At: protect.At}
	begin(t, r, protect)
	step(t, r, at, word(api.Word{Gen: 5, Tag: 7, Num: 3, Mark: true}))
	over(t, r, word(api.Word{Gen: 5, Tag: 7, Num: 3, Mark: true}))

	begin(t, r, protect)
	step(t, r, at, word(api.Word{Slot: 6, Gen: 1, Tag: 3}))
	step(t, r, store(51, api.Word{Slot: 6, Gen: 1}), fine)
	step(t, r, at, word(api.Word{Slot: 6, Gen: 2, Tag: 4}))
	step(t, r, store(51, api.Word{Slot: 6, Gen: 2}), fine)
	step(t, r, at, word(api.Word{Slot: 6, Gen: 2, Tag: 5, Mark: true}))
	over(t, r, word(api.Word{Slot: 6, Gen: 2, Tag: 5, Mark: true}))

	begin(t, r, protect)
	step(t, r, at, word(api.Word{Slot: 6, Gen: 2, Tag: 9}))
	over(t, r, word(api.Word{Slot: 6, Gen: 2, Tag: 9}))

	protect.I = 0
	begin(t, r, protect)
	step(t, r, at, word(api.Word{Slot: 6, Gen: 2}))
	step(t, r, store(43, api.Word{Slot: 6, Gen: 2}), fine)
	step(t, r, at, word(api.Word{}))
	over(t, r, word(api.Word{}))

	// What isn't there any more was announced for nothing, but it was: it is taken back.
	begin(t, r, api.Call{Kind: api.CallLeave})
	step(t, r, store(43, api.Word{}), fine)
	step(t, r, store(51, api.Word{}), fine)
	over(t, r, fine)
	begin(t, r, api.Call{Kind: api.CallLeave})
	over(t, r, fine)
}

// P6.2: by eras the clock's number is announced till it stands still; the era 0 is never announced.
func TestProtectByEras(t *testing.T) {
	r := open(t, api.Eras, 0, 1, 1)
	protect := api.Call{Kind: api.CallProtect, At: api.Addr{Field: 1}, I: 4}
	begin(t, r, protect)
	step(t, r, load(1), word(api.Word{}))
	step(t, r, load(24), word(api.Word{Num: 0, Tag: 9}))
	step(t, r, store(29, api.Word{}), fine)
	step(t, r, load(1), word(api.Word{Slot: 1, Tag: 2}))
	step(t, r, load(24), num(3))
	step(t, r, store(29, api.Word{Num: 3}), fine)
	step(t, r, load(1), word(api.Word{Slot: 2, Tag: 3}))
	step(t, r, load(24), num(4))
	step(t, r, store(29, api.Word{Num: 4}), fine)
	step(t, r, load(1), word(api.Word{Slot: 4, Gen: 1, Tag: 4}))
	step(t, r, load(24), word(api.Word{Num: 4, Tag: 77, Mark: true}))
	over(t, r, word(api.Word{Slot: 4, Gen: 1, Tag: 4}))

	begin(t, r, protect)
	step(t, r, load(1), word(api.Word{Slot: 8}))
	step(t, r, load(24), num(4))
	over(t, r, word(api.Word{Slot: 8}))

	begin(t, r, api.Call{Kind: api.CallHold, I: 6, J: 4})
	step(t, r, store(31, api.Word{Num: 4}), fine)
	over(t, r, fine)
	begin(t, r, api.Call{Kind: api.CallHold, I: 4, J: 4})
	over(t, r, fine)
	begin(t, r, api.Call{Kind: api.CallHold, I: 4, J: 8})
	step(t, r, store(29, api.Word{}), fine)
	over(t, r, fine)
	begin(t, r, api.Call{Kind: api.CallLeave})
	step(t, r, store(31, api.Word{}), fine)
	over(t, r, fine)
}

// P6.2: a span begins where the thread came in, and goes on with the clock; without having come in, where it protects first.
func TestProtectByInterval(t *testing.T) {
	r := open(t, api.Interval, 5, 6, 1)
	protect := api.Call{Kind: api.CallProtect, At: api.Addr{Field: 1}, I: 4}
	begin(t, r, protect)
	step(t, r, load(1), word(api.Word{Slot: 1}))
	step(t, r, load(24), num(3))
	step(t, r, store(84, span(3, 3)), fine)
	step(t, r, load(1), word(api.Word{Slot: 2}))
	step(t, r, load(24), num(5))
	step(t, r, store(84, span(3, 5)), fine)
	step(t, r, load(1), word(api.Word{Slot: 3, Tag: 2}))
	step(t, r, load(24), num(5))
	over(t, r, word(api.Word{Slot: 3, Tag: 2}))

	begin(t, r, api.Call{Kind: api.CallEnter})
	step(t, r, load(24), num(6))
	step(t, r, store(84, span(6, 6)), fine)
	over(t, r, fine)
	begin(t, r, protect)
	step(t, r, load(1), word(api.Word{}))
	step(t, r, load(24), num(6))
	over(t, r, word(api.Word{}))
	begin(t, r, api.Call{Kind: api.CallLeave})
	step(t, r, store(84, api.Word{}), fine)
	over(t, r, fine)
}

// P6.2: the era 0 is a span as any other one: it is announced, and taken back.
func TestSpanOfTheEraZero(t *testing.T) {
	for _, engine := range []int{api.Epochs, api.Interval} {
		r := open(t, engine, 0, 1, 1)
		begin(t, r, api.Call{Kind: api.CallEnter})
		step(t, r, load(24), num(0))
		step(t, r, store(79, span(0, 0)), fine)
		over(t, r, fine)
		begin(t, r, api.Call{Kind: api.CallLeave})
		step(t, r, store(79, api.Word{}), fine)
		over(t, r, fine)
		begin(t, r, api.Call{Kind: api.CallLeave})
		over(t, r, fine)
	}
}

// P6.2: a slot is born in the clock's era, where eras of birth are asked for; that there is none left is answered as it was.
func TestAllocAndDrop(t *testing.T) {
	for _, engine := range engines {
		for _, x := range []api.Reply{word(api.Word{Slot: 3, Gen: 9}), {}} {
			r := open(t, engine, 0, 1, 1)
			begin(t, r, api.Call{Kind: api.CallAlloc, New: api.Word{Num: 33}})
			born := 0
			if engine == api.Eras || engine == api.Interval {
				born = 7
				step(t, r, load(24), word(api.Word{Slot: 1, Num: 7, Tag: 5, Mark: true}))
			}
			step(t, r, api.Access{Kind: api.New, New: api.Word{Num: born}}, x)
			over(t, r, x)
			begin(t, r, api.Call{Kind: api.CallDrop, Old: api.Word{Slot: 3, Gen: 9}})
			step(t, r, free(3, 9), fine)
			over(t, r, fine)
			if r.Freed() != 0 || len(r.Notes()) != 0 {
				t.Errorf("engine %d: what was dropped was never retired: %d, %v", engine, r.Freed(), r.Notes())
			}
		}
	}
}

// P6.2: by eras and spans a slot's birth and the clock are noted, and the clock is turned; from so many notes on a scan follows, of all that all threads announce.
func TestRetireByEras(t *testing.T) {
	r := open(t, api.Eras, 1, 2, 2)
	retire := func(slot, birth int, clock api.Word) {
		begin(t, r, api.Call{Kind: api.CallRetire, Old: api.Word{Slot: slot, Gen: 4, Tag: 8}})
		step(t, r, api.Access{Kind: api.Load, At: api.Addr{Slot: slot, Gen: 4, Field: 9}}, num(birth))
		step(t, r, load(24), word(clock))
		step(t, r, swapClock(clock, clock.Num+1), api.Reply{})
	}
	retire(3, 2, api.Word{Num: 4, Tag: 9})
	over(t, r, fine)
	retire(5, 5, api.Word{Num: 6, Tag: 11})
	want := []api.Note{{Ref: api.Word{Slot: 3, Gen: 4}, Birth: 2, Death: 4}, {Ref: api.Word{Slot: 5, Gen: 4}, Birth: 5, Death: 6}}
	if !slices.Equal(r.Notes(), want) || !r.Busy() {
		t.Fatal(r.Notes())
	}
	for n := range 2 * api.Hazards {
		x := fine
		if n == 17 {
			x = num(5)
		}
		step(t, r, load(25+n), x)
	}
	step(t, r, free(3, 4), fine)
	over(t, r, fine)
	if !slices.Equal(r.Notes(), want[1:]) || r.Freed() != 1 {
		t.Error(r.Notes(), r.Freed())
	}
}

// P6.2: the same by spans.
func TestRetireByInterval(t *testing.T) {
	r := open(t, api.Interval, 0, 3, 1)
	begin(t, r, api.Call{Kind: api.CallRetire, Old: api.Word{Slot: 3, Gen: 4}})
	step(t, r, api.Access{Kind: api.Load, At: api.Addr{Slot: 3, Gen: 4, Field: 9}}, num(2))
	step(t, r, load(24), num(4))
	want := []api.Note{{Ref: api.Word{Slot: 3, Gen: 4}, Birth: 2, Death: 4}}
	if !slices.Equal(r.Notes(), want) {
		t.Fatal(r.Notes())
	}
	step(t, r, swapClock(api.Word{Num: 4}, 5), fine)
	step(t, r, load(79), word(span(5, 9)))
	step(t, r, load(80), fine)
	step(t, r, load(81), word(span(1, 2)))
	over(t, r, fine)
	if !slices.Equal(r.Notes(), want) || r.Freed() != 0 {
		t.Error(r.Notes(), r.Freed())
	}
	begin(t, r, api.Call{Kind: api.CallScan})
	step(t, r, load(79), word(span(5, 9)))
	step(t, r, load(80), word(api.Word{Num: 2, Tag: 4}))
	step(t, r, load(81), word(span(1, 1)))
	step(t, r, free(3, 4), fine)
	over(t, r, fine)
}

// P6.2: the clock is turned only if nobody stands in another epoch, and what it is then decides.
func TestScanByEpochs(t *testing.T) {
	r := open(t, api.Epochs, 0, 2, 9)
	for slot, clock := range []int{4, 3, 5} {
		begin(t, r, api.Call{Kind: api.CallRetire, Old: api.Word{Slot: slot + 1, Gen: 1}})
		step(t, r, load(24), num(clock))
		over(t, r, fine)
	}
	want := []api.Note{{Ref: api.Word{Slot: 1, Gen: 1}, Death: 4}, {Ref: api.Word{Slot: 2, Gen: 1}, Death: 3}, {Ref: api.Word{Slot: 3, Gen: 1}, Death: 5}}
	if !slices.Equal(r.Notes(), want) {
		t.Fatal(r.Notes())
	}
	begin(t, r, api.Call{Kind: api.CallScan})
	step(t, r, load(24), num(4))
	step(t, r, load(79), word(span(4, 4)))
	step(t, r, load(80), word(span(3, 4)))
	step(t, r, load(24), num(5))
	step(t, r, free(2, 1), fine)
	over(t, r, fine)
	begin(t, r, api.Call{Kind: api.CallScan})
	step(t, r, load(24), word(api.Word{Num: 5, Tag: 6}))
	step(t, r, load(79), word(span(5, 5)))
	step(t, r, load(80), word(api.Word{Num: 4}))
	step(t, r, swapClock(api.Word{Num: 5, Tag: 6}, 6), api.Reply{Word: api.Word{Num: 6}})
	step(t, r, load(24), num(7))
	step(t, r, free(1, 1), fine)
	step(t, r, free(3, 1), fine)
	over(t, r, fine)
	if len(r.Notes()) != 0 || r.Freed() != 3 {
		t.Error(r.Notes(), r.Freed())
	}
}

// P6.2: a scan looks at all announcements, even if there is no note; by Never at none.
func TestScanWithoutNotes(t *testing.T) {
	for _, engine := range engines {
		for threads := 1; threads <= api.MaxThreads; threads++ {
			var want []int
			switch engine {
			case api.Hazard, api.Eras:
				for n := range threads * api.Hazards {
					want = append(want, 25+n)
				}
			case api.Epochs, api.Interval:
				for n := range threads {
					want = append(want, 79+n)
				}
			}
			r := open(t, engine, threads-1, threads, 1)
			begin(t, r, api.Call{Kind: api.CallScan})
			if engine == api.Epochs {
				step(t, r, load(24), num(1))
			}
			for _, cell := range want {
				step(t, r, load(cell), word(span(2, 2)))
			}
			if engine == api.Epochs {
				step(t, r, load(24), num(1))
			}
			over(t, r, fine)
		}
	}
}

// P6.2: a wrong access's answer is taken as any other one.
func TestWrongAccesses(t *testing.T) {
	wrong := api.Reply{Word: api.Word{Num: -1}}
	r := open(t, api.Hazard, 0, 1, 1)
	begin(t, r, api.Call{Kind: api.CallProtect, At: api.Addr{Slot: 1, Gen: 1, Field: 2}})
	step(t, r, api.Access{Kind: api.Load, At: api.Addr{Slot: 1, Gen: 1, Field: 2}}, wrong)
	over(t, r, api.Reply{Word: wrong.Word, Ok: true})

	r = open(t, api.Interval, 0, 1, 1)
	begin(t, r, api.Call{Kind: api.CallEnter})
	step(t, r, load(24), wrong)
	step(t, r, store(79, api.Word{Num: -1, Tag: -1, Mark: true}), fine)
	over(t, r, fine)
	begin(t, r, api.Call{Kind: api.CallProtect})
	step(t, r, load(0), wrong)
	step(t, r, load(24), num(-3))
	step(t, r, store(79, api.Word{Num: -1, Tag: -3, Mark: true}), fine)
	step(t, r, load(0), wrong)
	step(t, r, load(24), num(-3))
	over(t, r, api.Reply{Word: wrong.Word, Ok: true})
}
