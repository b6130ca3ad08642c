package sieve

import (
	"math"
	"slices"
	"testing"

	"sexton/api"
)

// way is one of the four, with so many of what it is given as kept.
type way struct {
	name string
	most int
	part func(notes []api.Note, many int) (free, stay []api.Note)
}

// ways are the four; what is kept more, each later one of them keeps besides. By epochs the clock stands so much further back.
func ways() []way {
	words := []api.Word{{}, {Slot: 4, Gen: 9}, {Slot: -1}, {Slot: 2}, {Slot: 2}, {Slot: math.MaxInt}, {Slot: 7, Mark: true}, {Slot: 1}}
	eras := []int{0, -5, 5, math.MinInt, 9, 2, 5, 7, math.MaxInt, 1}
	spans := []api.Span{{}, {Low: 0, High: 9}, is(5, 5), is(9, 1), is(math.MaxInt, math.MinInt), is(1, 2), is(7, 8), is(math.MinInt, math.MaxInt)}
	clocks := []int{math.MaxInt, 1 << 40, 12, 11, 9, 8, 7, 6, 2, 1, 0, -7, math.MinInt + 2, math.MinInt + 1, math.MinInt}
	return []way{
		{"slots", len(words), func(notes []api.Note, many int) ([]api.Note, []api.Note) { return Slots(notes, words[:many]...) }},
		{"eras", len(eras), func(notes []api.Note, many int) ([]api.Note, []api.Note) { return Eras(notes, eras[:many]...) }},
		{"spans", len(spans), func(notes []api.Note, many int) ([]api.Note, []api.Note) { return Spans(notes, spans[:many]...) }},
		{"epochs", len(clocks) - 1, func(notes []api.Note, many int) ([]api.Note, []api.Note) { return Epochs(notes, clocks[many]) }},
	}
}

// some are notes, some of them the same, some that can't be.
func some() []api.Note {
	return []api.Note{
		note(4, 1, 4), note(2, 3, 6), note(7, 5, 5), note(1, 2, 9), note(2, 3, 6), note(3, 8, 10), note(4, 0, 0), note(6, 7, 2), {},
		{Ref: api.Word{Slot: 5, Tag: 3, Num: -2, Mark: true}, Birth: -3, Death: -1}, note(4, 1, 4), note(8, math.MinInt, math.MaxInt), note(9, math.MaxInt, math.MinInt),
	}
}

// follows tells whether the elements of part stand in all, in this order.
func follows(part, all []api.Note) bool {
	for _, n := range all {
		if len(part) > 0 && part[0] == n {
			part = part[1:]
		}
	}
	return len(part) == 0
}

// P5.3: each note, as often as it is there, is in one of the two, and nothing else is; P5.1: both are in their order.
func TestEachNoteIsInOne(t *testing.T) {
	notes := some()
	count := func(list []api.Note, n api.Note) int {
		many := 0
		for _, x := range list {
			if x == n {
				many++
			}
		}
		return many
	}
	for _, w := range ways() {
		for many := 0; many <= w.most; many++ {
			free, stay := w.part(notes, many)
			if len(free)+len(stay) != len(notes) || !follows(free, notes) || !follows(stay, notes) {
				t.Errorf("%s %d: free %v, stay %v", w.name, many, free, stay)
			}
			for _, n := range notes {
				if a, b := count(free, n), count(stay, n); a+b != count(notes, n) || a > 0 && b > 0 {
					t.Errorf("%s %d: %+v is %d and %d times there", w.name, many, n, a, b)
				}
			}
		}
	}
}

// P5.3: what is kept more, lets no more be freed; what stays, stays.
func TestMoreKeptFreesNoMore(t *testing.T) {
	notes := some()
	for _, w := range ways() {
		free, stay := w.part(notes, 0)
		first := len(free)
		for many := 1; many <= w.most; many++ {
			less, more := w.part(notes, many)
			if !follows(less, free) || !follows(stay, more) {
				t.Errorf("%s %d: free %v, then %v", w.name, many, free, less)
			}
			free, stay = less, more
		}
		if len(free) == first {
			t.Errorf("%s: nothing was kept: %v", w.name, free)
		}
	}
}

// P1: nothing is parted into nothing.
func TestNoNotes(t *testing.T) {
	for _, w := range ways() {
		for many := 0; many <= w.most; many++ {
			for _, notes := range [][]api.Note{nil, {}, make([]api.Note, 0, 5)} {
				if free, stay := w.part(notes, many); len(free) != 0 || len(stay) != 0 {
					t.Errorf("%s %d: free %v, stay %v", w.name, many, free, stay)
				}
			}
		}
	}
}

// P1, P5.3: numbers of all kinds are parted by the one rule.
func TestFar(t *testing.T) {
	for _, a := range far {
		for _, b := range far {
			notes := []api.Note{note(a, a, b), note(b, b, a), {Ref: api.Word{Slot: a, Gen: b, Tag: a, Num: b}, Birth: a, Death: a}}
			for _, c := range far {
				free, stay := Slots(notes, api.Word{Slot: c, Gen: a})
				check(t, c, notes, free, stay, func(n api.Note) bool { return n.Ref.Slot == c })
				free, stay = Eras(notes, c)
				check(t, c, notes, free, stay, func(n api.Note) bool { return c > 0 && c >= n.Birth && c <= n.Death })
				free, stay = Epochs(notes, c)
				check(t, c, notes, free, stay, func(n api.Note) bool { return c < math.MinInt+2 || n.Death > c-2 })
				for _, d := range far {
					free, stay = Spans(notes, is(c, d))
					check(t, is(c, d), notes, free, stay, func(n api.Note) bool { return c <= n.Death && d >= n.Birth })
				}
			}
		}
	}
}

// Rule 3: what is handed in isn't changed, its spare room neither, and shares nothing with what is answered; nor do the two answers.
func TestAnswersAreNew(t *testing.T) {
	ink := note(500, 1, 1)
	for _, w := range ways() {
		for many := 0; many <= w.most; many++ {
			room := append(some(), some()...)
			before := slices.Clone(room)
			notes := room[:len(room)/2]
			free, stay := w.part(notes, many)
			if !slices.Equal(room, before) {
				t.Errorf("%s %d: the notes are %v now", w.name, many, room)
			}
			keptStay := slices.Clone(stay)
			blot(free, ink)
			if !slices.Equal(stay, keptStay) {
				t.Errorf("%s %d: what stays hangs on what is freed", w.name, many)
			}
			again, _ := w.part(notes, many)
			keptFree := slices.Clone(again)
			blot(stay, ink)
			if !slices.Equal(again, keptFree) || !slices.Equal(room, before) {
				t.Errorf("%s %d: answers hang on one another, or on the notes", w.name, many)
			}
			blot(room, ink)
			if !slices.Equal(again, keptFree) {
				t.Errorf("%s %d: an answer hangs on the notes", w.name, many)
			}
		}
	}
}

// blot writes over a list and its spare room.
func blot(list []api.Note, ink api.Note) {
	list = list[:cap(list)]
	for i := range list {
		list[i] = ink
	}
}

// Rule 3: what is handed in as kept isn't changed, its spare room neither.
func TestKeptIsNotChanged(t *testing.T) {
	words := []api.Word{{Slot: 9, Gen: 3}, {Slot: 2, Tag: 4}, {Slot: 1}, {Slot: 8}}
	eras := []int{9, -1, 3, 2}
	spans := []api.Span{is(9, 1), {}, is(2, 3), is(1, 1)}
	Slots(some(), words[:2]...)
	Eras(some(), eras[:2]...)
	Spans(some(), spans[:2]...)
	May(9, spans[:2]...)
	if !slices.Equal(words, []api.Word{{Slot: 9, Gen: 3}, {Slot: 2, Tag: 4}, {Slot: 1}, {Slot: 8}}) || !slices.Equal(eras, []int{9, -1, 3, 2}) ||
		!slices.Equal(spans, []api.Span{is(9, 1), {}, is(2, 3), is(1, 1)}) {
		t.Error(words, eras, spans)
	}
}
