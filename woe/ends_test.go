package woe

import (
	"errors"
	"slices"
	"testing"

	"sexton/api"
)

// bad is another package's error whose methods panic, one or all of them.
type bad struct{ is, as, unwrap bool }

func (b *bad) Error() string { panic("Error") }

func (b *bad) Is(error) bool {
	if b.is {
		panic("Is")
	}
	return false
}

func (b *bad) As(any) bool {
	if b.as {
		panic("As")
	}
	return false
}

func (b *bad) Unwrap() error {
	if b.unwrap {
		panic("Unwrap")
	}
	return nil
}

// badJoin is another package's error that joins, and panics.
type badJoin struct{}

func (badJoin) Error() string   { return "bad" }
func (badJoin) Unwrap() []error { panic("Unwrap") }

// ring is another package's error that wraps what is put into it later.
type ring struct{ err error }

func (r *ring) Error() string { return "ring" }
func (r *ring) Unwrap() error { return r.err }

// spring is another package's error that never runs dry.
type spring struct{ n int }

func (s spring) Error() string { return "spring" }
func (s spring) Unwrap() error { return At(s.n, spring{s.n + 1}) }

// P1
func TestOthersPanic(t *testing.T) {
	var none *bad
	for _, err := range []error{
		none, &bad{is: true}, &bad{as: true}, &bad{unwrap: true}, &bad{true, true, true}, badJoin{},
		many{&bad{true, true, true}}, wrap{none},
	} {
		checkCode(t, "panics", err, -1)
		checkPlace(t, "panics", err, 0, false)
		checkPath(t, "panics", err)
		checkCode(t, "panics, wrapped", At(3, err), -1)
		checkPlace(t, "panics, wrapped", At(3, err), 3, true)
		checkPath(t, "panics, wrapped", At(3, At(7, err)), 3, 7)
		if w, ok := At(3, err).(*Woe); !ok || w.Error() != "woe" {
			t.Error(w, ok)
		}
	}
	checkCode(t, "ahead of one that panics", many{api.ErrFull, &bad{is: true}}, 3)
}

// P1
func TestWoesInARing(t *testing.T) {
	self := &Woe{Place: 1}
	self.Err = self
	checkCode(t, "itself", self, -1)
	checkPlace(t, "itself", self, 1, true)
	checkPath(t, "itself", self, 1)

	a, b, c := &Woe{Place: 1}, &Woe{Place: 2}, &Woe{Place: 3}
	a.Err, b.Err, c.Err = b, wrap{c}, b
	checkCode(t, "behind another", wrap{a}, -1)
	checkPlace(t, "behind another", wrap{a}, 1, true)
	checkPath(t, "behind another", wrap{a}, 1, 2, 3)
	if a.Error() != "woe" || a.Unwrap() != error(b) {
		t.Error(a.Error(), a.Unwrap())
	}
}

// P1
func TestOthersInARing(t *testing.T) {
	r := &ring{}
	r.err = wrap{r}
	checkCode(t, "another", r, -1)
	checkPlace(t, "another", r, 0, false)
	checkPath(t, "another", r)
	checkPlace(t, "another, wrapped", At(3, r), 3, true)
	checkPath(t, "another, wrapped", At(3, r), 3)
	w, ok := At(3, r).(*Woe)
	if !ok || w.Unwrap() != error(r) {
		t.Error(w, ok)
	}
}

// P1
func TestJoinedInARing(t *testing.T) {
	w := &Woe{Place: 1}
	w.Err = errors.Join(api.ErrFull, w)
	Code(w)
	checkPlace(t, "joined", w, 1, true)
	checkPath(t, "joined", w, 1)

	m := many{nil, nil}
	m[0], m[1] = m, m
	checkCode(t, "joined with itself", m, -1)
	checkPlace(t, "joined with itself", m, 0, false)
	checkPath(t, "joined with itself", m)
}

// P1
func TestOthersWithoutAnEnd(t *testing.T) {
	checkCode(t, "a spring", spring{}, -1)
	checkPlace(t, "a spring", spring{}, 0, true)
	path := Path(spring{})
	if len(path) < 1<<16 || !slices.IsSorted(path) {
		t.Error(len(path))
	}
}
