package sieve

import (
	"math"
	"slices"
	"testing"

	"sexton/api"
)

// far are numbers at and around the limits, and the ends of their type.
var far = []int{
	math.MinInt, math.MinInt + 1, math.MinInt + 2, math.MinInt + 3, -1 << 40, -1, 0, 1, 2, 3, 1023, 1024, 1025,
	1<<40 - 2, 1<<40 - 1, 1 << 40, 1<<40 + 1, 1<<40 + 2, math.MaxInt - 2, math.MaxInt - 1, math.MaxInt,
}

// note answers a slot's note, in a generation that no other part of the note has.
func note(slot, birth, death int) api.Note {
	return api.Note{Ref: api.Word{Slot: slot, Gen: 77}, Birth: birth, Death: death}
}

// is answers a span that is.
func is(low, high int) api.Span { return api.Span{Is: true, Low: low, High: high} }

// lives are notes of all small births and deaths, those of which the one is above the other, too: slot 1 and so on.
func lives() []api.Note {
	var all []api.Note
	for birth := -2; birth <= 5; birth++ {
		for death := -2; death <= 5; death++ {
			all = append(all, note(len(all)+1, birth, death))
		}
	}
	return all
}

// check asks whether the notes are parted as each of them is told by stays.
func check(t *testing.T, what any, notes, free, stay []api.Note, stays func(api.Note) bool) {
	t.Helper()
	var wantFree, wantStay []api.Note
	for _, n := range notes {
		if stays(n) {
			wantStay = append(wantStay, n)
		} else {
			wantFree = append(wantFree, n)
		}
	}
	if !slices.Equal(free, wantFree) || !slices.Equal(stay, wantStay) {
		t.Errorf("%+v: free %v, stay %v; not %v, %v", what, free, stay, wantFree, wantStay)
	}
}

// slots answers the slots of notes.
func slots(notes []api.Note) []int {
	var all []int
	for _, n := range notes {
		all = append(all, n.Ref.Slot)
	}
	return all
}

// want asks for the slots of both parts.
func want(t *testing.T, what any, free, stay []api.Note, wantFree, wantStay []int) {
	t.Helper()
	if !slices.Equal(slots(free), wantFree) || !slices.Equal(slots(stay), wantStay) {
		t.Errorf("%+v: free %v, stay %v; not %v, %v", what, free, stay, wantFree, wantStay)
	}
}

// P5.1: the examples of the chapter.
func TestExamples(t *testing.T) {
	free, stay := Epochs([]api.Note{note(1, 1, 3), note(2, 1, 4), note(3, 1, 5)}, 6)
	want(t, "epochs", free, stay, []int{1, 2}, []int{3})
	one := []api.Note{note(1, 2, 4)}
	free, stay = Eras(one, 5)
	want(t, "era 5", free, stay, []int{1}, nil)
	free, stay = Eras(one, 3)
	want(t, "era 3", free, stay, nil, []int{1})
}

// P5.1: a slot is kept in whatever generation, tag, mark, number; births and deaths say nothing.
func TestSlots(t *testing.T) {
	notes := []api.Note{note(5, 1, 2), note(3, 9, 1), note(5, 4, 4), note(1024, 0, 0), note(1, 7, 8), note(2, 3, 3)}
	for _, c := range []struct {
		kept       []api.Word
		free, stay []int
	}{
		{nil, []int{5, 3, 5, 1024, 1, 2}, nil},
		{[]api.Word{{}}, []int{5, 3, 5, 1024, 1, 2}, nil},
		{[]api.Word{{Slot: 5}}, []int{3, 1024, 1, 2}, []int{5, 5}},
		{[]api.Word{{Slot: 5, Gen: 77}}, []int{3, 1024, 1, 2}, []int{5, 5}},
		{[]api.Word{{Slot: 3, Gen: 76, Tag: 4, Num: -2, Mark: true}}, []int{5, 5, 1024, 1, 2}, []int{3}},
		{[]api.Word{{Slot: 2}, {Slot: 1024}}, []int{5, 3, 5, 1}, []int{1024, 2}},
		{[]api.Word{{Slot: 1}, {Slot: 1}, {Slot: 4}, {Gen: 5, Tag: 3, Num: 2}}, []int{5, 3, 5, 1024, 2}, []int{1}},
		{[]api.Word{{Slot: 1}, {Slot: 2}, {Slot: 3}, {Slot: 5}, {Slot: 1024}}, nil, []int{5, 3, 5, 1024, 1, 2}},
		{[]api.Word{{Slot: -1}, {Slot: -5}, {Slot: 1025}, {Slot: 5 + 1<<32}, {Slot: math.MinInt}, {Slot: math.MaxInt}}, []int{5, 3, 5, 1024, 1, 2}, nil},
	} {
		free, stay := Slots(notes, c.kept...)
		want(t, c.kept, free, stay, c.free, c.stay)
	}
}

// P5.1: notes that can't be are parted as others are: by their slots alone.
func TestSlotsOfAnyNotes(t *testing.T) {
	var notes []api.Note
	for _, n := range far {
		notes = append(notes, api.Note{Ref: api.Word{Slot: n, Gen: -n, Tag: n, Num: n, Mark: true}, Birth: n, Death: -n})
	}
	for _, n := range far {
		free, stay := Slots(notes, api.Word{Slot: n, Gen: n})
		check(t, n, notes, free, stay, func(x api.Note) bool { return x.Ref.Slot == n })
	}
}

// P5.1: an era keeps what lived in it, from its birth to its death, both among them; eras that aren't above 0 keep nothing.
func TestEras(t *testing.T) {
	notes := lives()
	lived := func(n api.Note, era int) bool { return era > 0 && n.Birth <= era && era <= n.Death }
	for one := -3; one <= 6; one++ {
		free, stay := Eras(notes, one)
		check(t, one, notes, free, stay, func(n api.Note) bool { return lived(n, one) })
		for two := -3; two <= 6; two++ {
			free, stay := Eras(notes, one, two)
			check(t, []int{one, two}, notes, free, stay, func(n api.Note) bool { return lived(n, one) || lived(n, two) })
		}
	}
	free, stay := Eras(notes)
	check(t, "no era", notes, free, stay, func(api.Note) bool { return false })
}

// P5.1: the edges of eras, one by one.
func TestErasAtTheEdges(t *testing.T) {
	for _, c := range []struct {
		birth, death, era int
		stays             bool
	}{
		{2, 4, 1, false}, {2, 4, 2, true}, {2, 4, 4, true}, {2, 4, 5, false}, {3, 3, 3, true}, {4, 2, 3, false},
		{0, 4, 0, false}, {0, 0, 0, false}, {-3, 4, -1, false}, {-3, 4, 1, true}, {0, 1, 1, true},
		{0, 1 << 40, 1 << 40, true}, {1 << 40, 1 << 40, 1 << 40, true}, {1 << 40, 1 << 40, 1<<40 - 1, false},
		{math.MinInt, math.MaxInt, math.MaxInt, true}, {math.MinInt, math.MaxInt, math.MinInt, false}, {math.MaxInt, math.MinInt, 1, false},
	} {
		free, stay := Eras([]api.Note{note(1, c.birth, c.death)}, c.era)
		if len(stay) == 1 != c.stays || len(free)+len(stay) != 1 {
			t.Errorf("%+v: free %v, stay %v", c, free, stay)
		}
	}
}

// P5.1: a span keeps what lived in it, if it is: its low end is at most the death, its high end at least the birth.
func TestSpans(t *testing.T) {
	notes := lives()
	met := func(n api.Note, low, high int) bool { return low <= n.Death && n.Birth <= high }
	for low := -3; low <= 6; low++ {
		for high := -3; high <= 6; high++ {
			s := is(low, high)
			free, stay := Spans(notes, s)
			check(t, s, notes, free, stay, func(n api.Note) bool { return met(n, low, high) })
			s.Is = false
			free, stay = Spans(notes, s)
			check(t, s, notes, free, stay, func(api.Note) bool { return false })
			two := []api.Span{s, is(4, 4), {Low: -9, High: 9}, is(high, low)}
			free, stay = Spans(notes, two...)
			check(t, two, notes, free, stay, func(n api.Note) bool { return met(n, 4, 4) || met(n, high, low) })
		}
	}
	free, stay := Spans(notes)
	check(t, "no span", notes, free, stay, func(api.Note) bool { return false })
}

// P5.1: the edges of spans, one by one.
func TestSpansAtTheEdges(t *testing.T) {
	for _, c := range []struct {
		birth, death int
		span         api.Span
		stays        bool
	}{
		{3, 5, is(5, 9), true}, {3, 5, is(6, 9), false}, {3, 5, is(0, 3), true}, {3, 5, is(0, 2), false},
		{3, 5, is(4, 4), true}, {3, 5, is(0, 9), true}, {3, 5, api.Span{Low: 0, High: 9}, false}, {0, 0, is(0, 0), true}, {0, 0, api.Span{}, false},
		{1, 9, is(9, 1), true}, {2, 9, is(9, 1), false}, {-5, -3, is(-4, -4), true},
		{1 << 40, 1 << 40, is(1<<40, 1<<40), true}, {1 << 40, 1 << 40, is(0, 1<<40-1), false},
		{math.MinInt, math.MinInt, is(math.MinInt, math.MinInt), true}, {math.MaxInt, math.MaxInt, is(math.MaxInt, math.MaxInt), true},
		{math.MinInt, math.MaxInt, is(math.MaxInt, math.MinInt), true}, {math.MaxInt, math.MinInt, is(math.MinInt, math.MaxInt), true},
		{math.MaxInt, math.MinInt, is(math.MinInt+1, math.MaxInt), false}, {math.MinInt, math.MinInt, is(math.MaxInt, math.MaxInt), false},
	} {
		free, stay := Spans([]api.Note{note(1, c.birth, c.death)}, c.span)
		if len(stay) == 1 != c.stays || len(free)+len(stay) != 1 {
			t.Errorf("%+v: free %v, stay %v", c, free, stay)
		}
	}
}

// P5.1: two epochs on, a note is freed, whatever its birth; so far ahead that there is no such epoch, none is.
func TestEpochs(t *testing.T) {
	notes := lives()
	for now := -5; now <= 9; now++ {
		free, stay := Epochs(notes, now)
		check(t, now, notes, free, stay, func(n api.Note) bool { return n.Death+2 > now })
	}
	for _, c := range []struct {
		now, death int
		stays      bool
	}{
		{math.MinInt, math.MinInt, true}, {math.MinInt, math.MaxInt, true}, {math.MinInt, math.MaxInt - 1, true}, {math.MinInt, 0, true},
		{math.MinInt + 1, math.MinInt, true}, {math.MinInt + 1, math.MaxInt, true}, {math.MinInt + 1, 0, true},
		{math.MinInt + 2, math.MinInt, false}, {math.MinInt + 2, math.MinInt + 1, true}, {math.MinInt + 2, math.MaxInt, true},
		{math.MinInt + 3, math.MinInt + 1, false}, {math.MinInt + 3, math.MinInt + 2, true},
		{math.MaxInt, math.MaxInt - 2, false}, {math.MaxInt, math.MaxInt - 1, true}, {math.MaxInt, math.MaxInt, true}, {math.MaxInt, math.MinInt, false},
		{1 << 40, 1<<40 - 2, false}, {1 << 40, 1<<40 - 1, true}, {0, 0, true}, {1, 0, true}, {2, 0, false}, {0, -2, false}, {0, -1, true},
	} {
		for _, birth := range []int{math.MinInt, 0, c.death, math.MaxInt} {
			free, stay := Epochs([]api.Note{note(1, birth, c.death)}, c.now)
			if len(stay) == 1 != c.stays || len(free)+len(stay) != 1 {
				t.Errorf("%+v: free %v, stay %v", c, free, stay)
			}
		}
	}
}

// P5.2: the clock may go on, if each span that is begins now, whatever its end.
func TestMay(t *testing.T) {
	for _, c := range []struct {
		now   int
		spans []api.Span
		want  bool
	}{
		{4, nil, true}, {0, nil, true}, {math.MinInt, nil, true},
		{4, []api.Span{is(4, 4)}, true}, {4, []api.Span{is(4, 9)}, true}, {4, []api.Span{is(4, 3)}, true}, {4, []api.Span{is(4, 0)}, true},
		{4, []api.Span{is(3, 4)}, false}, {4, []api.Span{is(5, 4)}, false}, {4, []api.Span{is(5, 5)}, false}, {4, []api.Span{is(3, 5)}, false},
		{4, []api.Span{{Low: 3, High: 3}}, true}, {4, []api.Span{{}}, true}, {0, []api.Span{{}, is(0, 0)}, true}, {1, []api.Span{is(0, 0)}, false},
		{4, []api.Span{is(4, 4), {Low: 1}, is(4, 4)}, true},
		{4, []api.Span{is(3, 4), is(4, 4), is(4, 4)}, false}, {4, []api.Span{is(4, 4), is(3, 4), is(4, 4)}, false}, {4, []api.Span{is(4, 4), {}, is(5, 5)}, false},
		{4, []api.Span{is(3, 3), is(5, 5)}, false}, {5, []api.Span{is(6, 6), is(6, 6)}, false},
	} {
		if got := May(c.now, c.spans...); got != c.want {
			t.Errorf("%+v: %t", c, got)
		}
	}
	for _, now := range far {
		for _, low := range far {
			for _, high := range far {
				if got := May(now, is(low, high)); got != (now == low) {
					t.Errorf("%d, from %d: %t", now, low, got)
				}
				if !May(now, api.Span{Low: low, High: high}) {
					t.Errorf("%d, none from %d", now, low)
				}
			}
		}
	}
}

// P5.1: which notes can be.
func TestGood(t *testing.T) {
	for _, n := range []api.Note{
		note(1, 0, 0), note(1024, 0, 0), note(3, 1, 1), note(3, 1, 2), note(3, 0, 1<<40), note(3, 1<<40, 1<<40), note(3, 1<<40-1, 1<<40),
		{Ref: api.Word{Slot: 1}}, {Ref: api.Word{Slot: 1, Gen: 1 << 40}, Birth: 2, Death: 7},
	} {
		if !Good(n) {
			t.Errorf("%+v can't be", n)
		}
	}
	for _, n := range []api.Note{
		{}, {Birth: 1, Death: 2}, {Ref: api.Word{Gen: 1}, Birth: 1, Death: 2}, note(0, 1, 2), note(-1, 1, 2), note(1025, 1, 2), note(1+1<<32, 1, 2),
		{Ref: api.Word{Slot: 1, Gen: -1}}, {Ref: api.Word{Slot: 1, Gen: 1<<40 + 1}},
		{Ref: api.Word{Slot: 1, Gen: 1, Tag: 1}}, {Ref: api.Word{Slot: 1, Gen: 1, Tag: -1}}, {Ref: api.Word{Slot: 1, Gen: 1, Num: 1}},
		{Ref: api.Word{Slot: 1, Gen: 1, Num: -1}}, {Ref: api.Word{Slot: 1, Gen: 1, Mark: true}},
		note(1, -1, 1), note(1, -1, -1), note(1, 1, 0), note(1, 2, 1), note(1, 0, -1), note(1, 1, 1<<40+1), note(1, 1<<40+1, 1<<40+1),
		note(1, 1<<40, 1<<40-1), note(1, 1<<40+1, 1),
	} {
		if Good(n) {
			t.Errorf("%+v can be", n)
		}
	}
}

// P5.1: whether a note can be, at numbers of all kinds.
func TestGoodFar(t *testing.T) {
	within := func(n, low, high int) bool { return low <= n && n <= high }
	for _, a := range far {
		for _, b := range far {
			if got, want := Good(note(3, a, b)), within(a, 0, 1<<40) && within(b, a, 1<<40); got != want {
				t.Errorf("from %d to %d: %t", a, b, got)
			}
			n := api.Note{Ref: api.Word{Slot: a, Gen: b}, Birth: 1, Death: 2}
			if got, want := Good(n), within(a, 1, 1024) && within(b, 0, 1<<40); got != want {
				t.Errorf("%+v: %t", n, got)
			}
			n.Ref = api.Word{Slot: 1, Gen: 1, Tag: a, Num: b}
			if got, want := Good(n), a == 0 && b == 0; got != want {
				t.Errorf("%+v: %t", n, got)
			}
		}
	}
}
