package glyph

import (
	"math"
	"testing"

	"sexton/api"
)

const top = api.MaxTag

// edges are numbers at and around the limits, and the ends of their type.
var edges = []int{
	math.MinInt, math.MinInt + 1, -top - 1, -top, -top + 1, -1025, -1, 0, 1, 2, 1023, 1024, 1025,
	top - 1, top, top + 1, math.MaxInt - 1, math.MaxInt,
}

// each hands on words of all edges in all fields, marked and not.
func each(f func(w api.Word)) {
	for _, slot := range edges {
		for _, gen := range edges {
			for _, tag := range edges {
				for _, num := range edges {
					f(api.Word{Slot: slot, Gen: gen, Tag: tag, Num: num})
					f(api.Word{Slot: slot, Gen: gen, Tag: tag, Num: num, Mark: true})
				}
			}
		}
	}
}

func checkWord(t *testing.T, what string, got, want api.Word) {
	t.Helper()
	if got != want {
		t.Errorf("%s is %+v, not %+v", what, got, want)
	}
}

// P2.1
func TestGoodAtTheLimits(t *testing.T) {
	good := []api.Word{
		{}, {Mark: true}, {Slot: 1}, {Slot: 1024}, {Slot: 1, Gen: 1}, {Slot: 1024, Gen: top}, {Tag: 1}, {Tag: top},
		{Num: 1}, {Num: -1}, {Num: top}, {Num: -top}, {Tag: top, Num: top, Mark: true},
		{Slot: 1024, Gen: top, Tag: top, Num: -top, Mark: true}, {Slot: 3, Gen: 2, Tag: 9, Num: 4},
	}
	for _, w := range good {
		if !Good(w) {
			t.Errorf("%+v is told not to be good", w)
		}
	}
	bad := []api.Word{
		{Slot: -1}, {Slot: 1025}, {Slot: math.MinInt}, {Slot: math.MaxInt}, {Slot: 1<<32 + 1},
		{Gen: 1}, {Gen: -1}, {Gen: top}, {Gen: top + 1}, {Slot: 1, Gen: -1}, {Slot: 1, Gen: top + 1}, {Slot: 1, Gen: math.MinInt}, {Slot: 1, Gen: math.MaxInt},
		{Tag: -1}, {Tag: top + 1}, {Tag: math.MinInt}, {Tag: math.MaxInt},
		{Num: top + 1}, {Num: -top - 1}, {Num: math.MinInt}, {Num: math.MaxInt},
		{Slot: -1, Gen: 1}, {Slot: 1025, Gen: 1, Tag: 1, Num: 1, Mark: true}, {Gen: 1, Mark: true}, {Slot: 1, Tag: -1, Mark: true},
	}
	for _, w := range bad {
		if Good(w) {
			t.Errorf("%+v is told to be good", w)
		}
	}
}

// P2.1
func TestGoodAsItsWordsSay(t *testing.T) {
	each(func(w api.Word) {
		want := w.Slot >= 0 && w.Slot <= 1024 && w.Gen >= 0 && w.Gen <= 1<<40 && w.Tag >= 0 && w.Tag <= 1<<40 && w.Num >= -(1<<40) && w.Num <= 1<<40
		if w.Slot == 0 && w.Gen != 0 {
			want = false
		}
		if Good(w) != want {
			t.Fatalf("Good of %+v isn't %t", w, want)
		}
	})
}

// P2.1
func TestSameLooksAtAllButTheGeneration(t *testing.T) {
	each(func(w api.Word) {
		if !Same(w, w) {
			t.Fatalf("%+v isn't the same as itself", w)
		}
	})
	w := api.Word{Slot: 3, Gen: 2, Tag: 9, Num: 4, Mark: true}
	for _, gen := range edges {
		v := w
		v.Gen = gen
		if !Same(w, v) || !Same(v, w) {
			t.Errorf("the generation %d is seen", gen)
		}
	}
	others := []api.Word{
		{Slot: 4, Gen: 2, Tag: 9, Num: 4, Mark: true}, {Slot: 3, Gen: 2, Tag: 10, Num: 4, Mark: true}, {Slot: 3, Gen: 2, Tag: 9, Num: 5, Mark: true},
		{Slot: 3, Gen: 2, Tag: 9, Num: 4}, {}, {Slot: 3 + 1<<32, Gen: 2, Tag: 9, Num: 4, Mark: true}, {Slot: 3, Gen: 2, Tag: 9 + 1<<32, Num: 4, Mark: true},
		{Slot: 9, Gen: 2, Tag: 3, Num: 4, Mark: true}, {Slot: 3, Gen: 2, Tag: 4, Num: 9, Mark: true}, {Slot: 3, Gen: 2, Tag: 9, Num: -4, Mark: true},
	}
	for _, v := range others {
		if Same(w, v) || Same(v, w) {
			t.Errorf("%+v and %+v are told to be the same", w, v)
		}
	}
}

// P1, P2.1
func TestParts(t *testing.T) {
	each(func(w api.Word) {
		if ref := Ref(w); ref != (api.Word{Slot: w.Slot, Gen: w.Gen}) {
			t.Fatalf("Ref of %+v is %+v", w, ref)
		}
		if Nil(w) != (w.Slot == 0) {
			t.Fatalf("Nil of %+v is %t", w, Nil(w))
		}
	})
	for _, n := range edges {
		checkWord(t, "Num", Num(n), api.Word{Num: n})
	}
}

// P1, P2.1: whether there is such a cell is the heap's to tell.
func TestFieldIsACellOfTheSlot(t *testing.T) {
	for _, n := range append([]int{api.Key, api.Val, api.Next, api.Height, api.Done, api.Birth, api.Fields}, edges...) {
		for _, w := range []api.Word{{}, {Slot: 3, Gen: 2, Tag: 9, Num: 4, Mark: true}, {Slot: -1, Gen: math.MaxInt}, {Slot: math.MaxInt, Gen: -1}} {
			if at := Field(w, n); at != (api.Addr{Slot: w.Slot, Gen: w.Gen, Field: n}) {
				t.Errorf("Field of %+v and %d is %+v", w, n, at)
			}
		}
	}
}

// P2.2
func TestToHasTheOtherSlotAndARisenTag(t *testing.T) {
	full := api.Word{Slot: 5, Gen: 1, Tag: 8, Num: 3, Mark: true}
	checkWord(t, "the example", To(api.Word{Slot: 3, Gen: 2, Tag: 9, Mark: true}, api.Word{Slot: 5, Gen: 1}), api.Word{Slot: 5, Gen: 1, Tag: 10})
	checkWord(t, "To of all fields", To(api.Word{Slot: 3, Gen: 2, Tag: 9, Num: 7, Mark: true}, full), api.Word{Slot: 5, Gen: 1, Tag: 10})
	checkWord(t, "To of none", To(full, api.Word{}), api.Word{Tag: 9})
	checkWord(t, "To of itself", To(full, full), api.Word{Slot: 5, Gen: 1, Tag: 9})
	checkWord(t, "To at the limit", To(api.Word{Tag: top}, full), api.Word{Slot: 5, Gen: 1, Tag: top + 1})
	checkWord(t, "To at the end", To(api.Word{Tag: math.MaxInt}, full), api.Word{Slot: 5, Gen: 1, Tag: math.MinInt})
	checkWord(t, "To of a slot that can't be", To(api.Word{Tag: -1}, api.Word{Slot: -1, Gen: math.MaxInt}), api.Word{Slot: -1, Gen: math.MaxInt})
}

// P2.2
func TestMarkedKeepsTheRest(t *testing.T) {
	each(func(w api.Word) {
		want := api.Word{Slot: w.Slot, Gen: w.Gen, Tag: w.Tag + 1, Num: w.Num, Mark: true}
		if got := Marked(w); got != want {
			t.Fatalf("Marked of %+v is %+v", w, got)
		}
	})
	checkWord(t, "Marked at the end", Marked(api.Word{Slot: 1, Gen: 1, Tag: math.MaxInt, Num: 2}), api.Word{Slot: 1, Gen: 1, Tag: math.MinInt, Num: 2, Mark: true})
}

// P2.2
func TestCountHasNoSlot(t *testing.T) {
	full := api.Word{Slot: 3, Gen: 2, Tag: 9, Num: 4, Mark: true}
	checkWord(t, "Count", Count(full, 5), api.Word{Tag: 10, Num: 9})
	checkWord(t, "Count downwards", Count(full, -5), api.Word{Tag: 10, Num: -1})
	checkWord(t, "Count by nothing", Count(full, 0), api.Word{Tag: 10, Num: 4})
	checkWord(t, "Count at the limit", Count(api.Word{Tag: top, Num: top}, 1), api.Word{Tag: top + 1, Num: top + 1})
	checkWord(t, "Count beyond the greatest", Count(api.Word{Tag: math.MaxInt, Num: math.MaxInt}, 1), api.Word{Tag: math.MinInt, Num: math.MinInt})
	checkWord(t, "Count beyond the least", Count(api.Word{Tag: math.MinInt, Num: math.MinInt}, -1), api.Word{Tag: math.MinInt + 1, Num: math.MaxInt})
	checkWord(t, "Count by the least", Count(api.Word{Num: math.MinInt}, math.MinInt), api.Word{Tag: 1})
	checkWord(t, "Count by the greatest", Count(api.Word{Num: 1}, math.MaxInt), api.Word{Tag: 1, Num: math.MinInt})
}

// P1, P2.4
func TestWhatComesInAWordsPlaceIsNeverTheSame(t *testing.T) {
	each(func(w api.Word) {
		nexts := []api.Word{To(w, w), To(w, api.Word{}), To(w, Marked(w)), Marked(w), Count(w, 0), Count(w, 1), Count(w, math.MinInt)}
		for i, next := range nexts {
			if Same(w, next) || Same(next, w) {
				t.Fatalf("%+v is the same as what comes in its place by way %d: %+v", w, i, next)
			}
		}
	})
}

// P2.4: a word that was seen once doesn't come back, whatever comes in its place in turn.
func TestNoWordComesBack(t *testing.T) {
	seen := map[api.Word]int{}
	a, b := api.Word{Slot: 1, Gen: 1}, api.Word{Slot: 2, Gen: 1}
	w := To(api.Word{}, a)
	for step := range 3000 {
		w.Gen = 0
		if at, again := seen[w]; again {
			t.Fatalf("%+v of the step %d is there again at %d", w, at, step)
		}
		seen[w] = step
		switch step % 5 {
		case 0:
			w = To(w, b)
		case 1:
			w = Marked(w)
		case 2:
			w = Count(w, 1)
		case 3:
			w = Count(w, -1)
		case 4:
			w = To(w, a)
		}
	}
}
