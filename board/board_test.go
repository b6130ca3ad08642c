package board

import (
	"errors"
	"math"
	"testing"

	"sexton/api"
	"sexton/plot"
	"sexton/woe"
)

// far are numbers at and around the limits, some that come round to them, and the ends of their type.
var far = []int{
	math.MinInt, math.MinInt + 1, -1 << 40, -1 << 32, -86, -25, -10, -9, -2, -1, 0, 1, 2, 4, 5, 6, 7, 8, 9, 10, 22, 23, 24, 25, 26,
	77, 78, 79, 80, 83, 84, 85, 86, 199, 200, 1 << 32, 1<<32 + 1, 1<<40 - 1, 1 << 40, 1<<40 + 1, math.MaxInt/9 + 1, math.MaxInt - 1, math.MaxInt,
}

// thing is what stands on a cell.
type thing struct {
	kind      string
	thread, n int
}

// things are all that stand on the board, in the order of their cells, as the chapter's words lay them.
func things() []thing {
	var all []thing
	for n := range 24 {
		all = append(all, thing{"root", 0, n})
	}
	all = append(all, thing{"era", 0, 0})
	for thread := range 6 {
		for n := range 9 {
			all = append(all, thing{"keep", thread, n})
		}
	}
	for thread := range 6 {
		all = append(all, thing{"span", thread, 0})
	}
	return all
}

// find answers where a thing is.
func find(x thing) (api.Addr, error) {
	switch x.kind {
	case "root":
		return Root(x.n)
	case "keep":
		return Keep(x.thread, x.n)
	case "span":
		return Span(x.thread)
	}
	return Era(), nil
}

// checkErr asks which error it is, not where it was wrapped.
func checkErr(t *testing.T, what any, got, want error) {
	t.Helper()
	if !errors.Is(got, want) || woe.Code(got) != woe.Code(want) {
		t.Errorf("%+v: the error is %v, not %v", what, got, want)
	}
}

// P4.1: the examples of the chapter.
func TestExamples(t *testing.T) {
	for _, c := range []struct {
		what thing
		want int
	}{
		{thing{"root", 0, 3}, 3}, {thing{"era", 0, 0}, 24}, {thing{"keep", 1, 0}, 34}, {thing{"span", 5, 0}, 84},
		{thing{"root", 0, 0}, 0}, {thing{"root", 0, 23}, 23}, {thing{"keep", 0, 0}, 25}, {thing{"keep", 0, 8}, 33},
		{thing{"keep", 5, 8}, 78}, {thing{"span", 0, 0}, 79},
	} {
		if at, err := find(c.what); at != (api.Addr{Field: c.want}) || err != nil {
			t.Errorf("%+v: %+v, %v, not %d", c.what, at, err, c.want)
		}
	}
	if Cells() != 85 {
		t.Error(Cells())
	}
}

// P4.1, P4.3, P4.4: each thing has its cell, in the order that is asked for, and each cell tells its thing.
func TestEachCellIsOneThing(t *testing.T) {
	all := things()
	if len(all) != Cells() {
		t.Fatalf("%d things, %d cells", len(all), Cells())
	}
	for field, want := range all {
		at, err := find(want)
		if at != (api.Addr{Field: field}) || err != nil {
			t.Errorf("%+v is at %+v, %v, not at %d", want, at, err, field)
		}
		kind, thread, n, err := Where(api.Addr{Field: field})
		if got := (thing{kind, thread, n}); got != want || err != nil {
			t.Errorf("%d is %+v, %v, not %+v", field, got, err, want)
		}
	}
}

// P4.4: what is stored for each thing, on a board of so many cells, stays beside the others'.
func TestThingsStandBesideEachOther(t *testing.T) {
	p, err := plot.New(0, Cells())
	if err != nil {
		t.Fatal(err)
	}
	for i, x := range things() {
		at, _ := find(x)
		if r, err := p.Do(api.Access{Kind: api.Store, At: at, New: api.Word{Num: i + 1}}); !r.Ok || err != nil {
			t.Errorf("%+v: %+v, %v", x, r, err)
		}
	}
	for i, x := range things() {
		at, _ := find(x)
		if w, ok := p.Peek(at); !ok || w != (api.Word{Num: i + 1}) {
			t.Errorf("%+v has %+v, %t", x, w, ok)
		}
	}
	if p.Fault() != nil {
		t.Error(p.Fault())
	}
}

// P1, P4.1: what there isn't has no cell.
func TestNoSuchThing(t *testing.T) {
	look := func(what thing, can bool, at api.Addr, err error) {
		t.Helper()
		if can {
			if err != nil || at.Slot != 0 || at.Gen != 0 || at.Field < 0 || at.Field > 84 {
				t.Errorf("%+v: %+v, %v", what, at, err)
			}
			return
		}
		checkErr(t, what, err, api.ErrArg)
		if at != (api.Addr{}) {
			t.Errorf("%+v: %+v beside an error", what, at)
		}
	}
	for _, a := range far {
		at, err := Root(a)
		look(thing{"root", 0, a}, a >= 0 && a <= 23, at, err)
		at, err = Span(a)
		look(thing{"span", a, 0}, a >= 0 && a <= 5, at, err)
		for _, b := range far {
			at, err = Keep(a, b)
			look(thing{"keep", a, b}, a >= 0 && a <= 5 && b >= 0 && b <= 8, at, err)
		}
	}
}

// P1, P4.3: what is no cell of the board is told to be none.
func TestNoCell(t *testing.T) {
	for _, slot := range far {
		for _, gen := range far {
			for _, field := range far {
				at := api.Addr{Slot: slot, Gen: gen, Field: field}
				kind, thread, n, err := Where(at)
				if slot == 0 && gen == 0 && field >= 0 && field <= 84 {
					if kind == "" || err != nil {
						t.Errorf("%+v: %q, %v", at, kind, err)
					}
					continue
				}
				checkErr(t, at, err, api.ErrNone)
				if kind != "" || thread != 0 || n != 0 {
					t.Errorf("%+v: %q, %d, %d beside an error", at, kind, thread, n)
				}
			}
		}
	}
}
