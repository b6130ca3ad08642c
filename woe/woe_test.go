package woe

import (
	"errors"
	"fmt"
	"math"
	"slices"
	"testing"

	"sexton/api"
)

var named = []error{
	api.ErrArg, api.ErrNil, api.ErrFull, api.ErrNone, api.ErrState, api.ErrFreed,
	api.ErrStale, api.ErrTwice, api.ErrLeft, api.ErrLong, api.ErrWord,
}

// wrap is another package's error around one.
type wrap struct{ err error }

func (w wrap) Error() string { return "wrap" }
func (w wrap) Unwrap() error { return w.err }

// many is another package's error around several; it can't be compared.
type many []error

func (m many) Error() string   { return "many" }
func (m many) Unwrap() []error { return m }

// alike is another package's error that says itself what it is.
type alike struct{ target error }

func (a alike) Error() string        { return "alike" }
func (a alike) Is(target error) bool { return target == a.target }

// shown is another package's error that lets itself be seen as a Woe.
type shown struct{ w *Woe }

func (s shown) Error() string { return "shown" }
func (s shown) As(target any) bool {
	w, ok := target.(**Woe)
	if ok {
		*w = s.w
	}
	return ok
}

func checkPlace(t *testing.T, what string, err error, want int, wantOk bool) {
	t.Helper()
	if place, ok := Place(err); place != want || ok != wantOk {
		t.Errorf("%s: Place is %d, %t, not %d, %t", what, place, ok, want, wantOk)
	}
}

func checkPath(t *testing.T, what string, err error, want ...int) {
	t.Helper()
	if path := Path(err); !slices.Equal(path, want) {
		t.Errorf("%s: Path is %v, not %v", what, path, want)
	}
}

func checkCode(t *testing.T, what string, err error, want int) {
	t.Helper()
	if code := Code(err); code != want {
		t.Errorf("%s: Code is %d, not %d", what, code, want)
	}
}

// P1.1
func TestOfGivesTheErrorOfItsNumber(t *testing.T) {
	for i, want := range named {
		if got := Of(i + 1); got != want {
			t.Errorf("Of(%d) is %v, not %v", i+1, got, want)
		}
	}
	for _, code := range []int{0, -1, 12, 256 + 1, 1<<32 + 1, math.MinInt, math.MaxInt} {
		if got := Of(code); got != nil {
			t.Errorf("Of(%d) is %v", code, got)
		}
	}
}

// P1.1
func TestAtWraps(t *testing.T) {
	for _, place := range []int{0, 1, -1, math.MinInt, math.MaxInt} {
		if err := At(place, nil); err != nil {
			t.Errorf("At(%d, nil) is %v", place, err)
		}
		for _, cause := range append([]error{errors.New("x"), At(5, api.ErrFull)}, named...) {
			w, ok := At(place, cause).(*Woe)
			if !ok || w.Place != place || w.Err != cause {
				t.Errorf("At(%d, %v) is %v", place, cause, w)
			}
		}
	}
	if At(1, api.ErrArg).(*Woe) == At(1, api.ErrArg).(*Woe) {
		t.Error("two calls of At answered one Woe")
	}
}

// P1.1: what holds a nil Woe isn't nil.
func TestAtWrapsANilWoe(t *testing.T) {
	var none *Woe
	w, ok := At(4, none).(*Woe)
	if !ok || w == nil || w.Place != 4 || w.Err != error(none) {
		t.Error(w, ok)
	}
}

// P1.1
func TestErrorAndUnwrap(t *testing.T) {
	for _, cause := range append([]error{nil, errors.New("x"), At(5, api.ErrFull)}, named...) {
		w := &Woe{Place: 7, Err: cause}
		if w.Error() != "woe" || w.Unwrap() != cause {
			t.Errorf("%v: %q, %v", cause, w.Error(), w.Unwrap())
		}
	}
	var none *Woe
	if none.Error() != "woe" || none.Unwrap() != nil {
		t.Errorf("nil: %q, %v", none.Error(), none.Unwrap())
	}
	if zero := new(Woe); zero.Error() != "woe" || zero.Unwrap() != nil {
		t.Errorf("zero: %q, %v", zero.Error(), zero.Unwrap())
	}
}

// P1.2
func TestCode(t *testing.T) {
	var none *Woe
	checkCode(t, "nil", nil, 0)
	for i, err := range named {
		checkCode(t, "named", err, i+1)
		checkCode(t, "wrapped", At(3, err), i+1)
		checkCode(t, "wrapped by another", wrap{At(3, wrap{err})}, i+1)
		checkCode(t, "joined", many{errors.New("x"), nil, At(3, err)}, i+1)
		checkCode(t, "says so", At(3, alike{err}), i+1)
		checkCode(t, "of the same text", errors.New(err.Error()), -1)
	}
	checkCode(t, "another", errors.New("x"), -1)
	checkCode(t, "another, wrapped", At(3, wrap{errors.New("x")}), -1)
	checkCode(t, "a Woe of nothing", &Woe{Place: 1}, -1)
	checkCode(t, "a nil Woe", none, -1)
	checkCode(t, "a nil Woe, wrapped", At(1, none), -1)
	checkCode(t, "joined of nothing", many{}, -1)
}

// P1.2
func TestCodeIsTheLeast(t *testing.T) {
	for i, low := range named {
		for j := i + 1; j < len(named); j++ {
			high := named[j]
			checkCode(t, "the least first", errors.Join(low, high), i+1)
			checkCode(t, "the least last", errors.Join(high, low), i+1)
			checkCode(t, "the least deeper", At(1, many{high, At(2, fmt.Errorf("%w", low))}), i+1)
			checkCode(t, "the least said", many{high, alike{low}}, i+1)
		}
	}
}

// P1.2
func TestPlaceIsTheOutermost(t *testing.T) {
	var none *Woe
	for _, place := range []int{0, 1, -1, math.MinInt, math.MaxInt} {
		err := At(place, At(place/2+9, api.ErrArg))
		checkPlace(t, "a Woe", err, place, true)
		checkPlace(t, "wrapped by another", wrap{wrap{err}}, place, true)
		checkPlace(t, "joined", errors.Join(api.ErrArg, err, At(77, api.ErrNil)), place, true)
		checkPlace(t, "seen as a Woe", shown{&Woe{Place: place}}, place, true)
		checkPlace(t, "a Woe of nothing", &Woe{Place: place}, place, true)
	}
	checkPlace(t, "nil", nil, 0, false)
	checkPlace(t, "named", api.ErrWord, 0, false)
	checkPlace(t, "wrapped by another", wrap{wrap{api.ErrWord}}, 0, false)
	checkPlace(t, "another around nothing", wrap{}, 0, false)
	checkPlace(t, "joined of nothing", many{}, 0, false)
	checkPlace(t, "a nil Woe", none, 0, false)
	checkPlace(t, "a nil Woe in another", wrap{none}, 0, false)
	checkPlace(t, "a nil Woe, wrapped", At(6, none), 6, true)
}

// P1.2
func TestPathTellsAllPlaces(t *testing.T) {
	var none *Woe
	checkPath(t, "nil", nil)
	checkPath(t, "named", api.ErrWord)
	checkPath(t, "another", wrap{wrap{api.ErrWord}})
	checkPath(t, "one", At(0, api.ErrArg), 0)
	checkPath(t, "the example", At(3, At(7, api.ErrFull)), 3, 7)
	checkPath(t, "ends", At(math.MaxInt, At(math.MinInt, api.ErrFull)), math.MaxInt, math.MinInt)
	checkPath(t, "one place twice", At(2, At(2, At(1, api.ErrFull))), 2, 2, 1)
	checkPath(t, "others between", wrap{At(3, wrap{wrap{At(7, wrap{api.ErrFull})}})}, 3, 7)
	checkPath(t, "a Woe of nothing", At(3, &Woe{Place: 7}), 3, 7)
	checkPath(t, "a nil Woe", none)
	checkPath(t, "a nil Woe, wrapped", At(3, none), 3)
	checkPath(t, "seen as a Woe", At(3, shown{&Woe{Place: 7}}), 3)
}

// P1.2: Unwrap leads to no errors that are joined.
func TestPathEndsAtAJoin(t *testing.T) {
	join := errors.Join(At(2, api.ErrArg), At(3, api.ErrArg))
	checkPath(t, "a join", join)
	checkPath(t, "a join, wrapped", At(1, join), 1)
}

// P1.2
func TestPathIsNewMemory(t *testing.T) {
	err := At(3, At(7, api.ErrFull))
	first := Path(err)
	first[0], first[1] = 8, 9
	checkPath(t, "after a change", err, 3, 7)
}

// P1.3
func TestWrappedHoweverOften(t *testing.T) {
	for _, often := range []int{1, 2, 10, 1 << 10, 1 << 16, 100_000} {
		for i, cause := range named {
			err, woes := cause, []int(nil)
			for n := range often {
				if n%3 == 2 {
					err = wrap{err}
					continue
				}
				err = At(n-often/2, err)
				woes = append(woes, n-often/2)
			}
			slices.Reverse(woes)
			checkCode(t, "often", err, i+1)
			checkPlace(t, "often", err, woes[0], true)
			if !slices.Equal(Path(err), woes) {
				t.Errorf("wrapped %d times: the places aren't those", often)
			}
			if !errors.Is(err, cause) {
				t.Errorf("wrapped %d times: isn't what it was", often)
			}
		}
	}
}

// P1.3
func TestOthersWrappedHoweverOften(t *testing.T) {
	err := At(4, api.ErrLong)
	for range 1 << 16 {
		err = wrap{err}
	}
	err = At(5, err)
	checkCode(t, "often", err, 10)
	checkPlace(t, "often", err, 5, true)
	checkPath(t, "often", err, 5, 4)
}

// P1.3: joined within joined.
func TestJoinedHoweverOften(t *testing.T) {
	err := At(4, api.ErrLong)
	for range 1 << 15 {
		err = many{nil, err}
	}
	checkCode(t, "often", err, 10)
	checkPlace(t, "often", err, 4, true)
	checkPath(t, "often", err)
}
