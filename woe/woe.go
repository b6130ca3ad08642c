// Package woe is layer 1: errors that tell where they come from. See shared/doc/01-woe.md.
package woe

import "sexton/api"

// Woe is an error at a place, with what caused it.
type Woe struct {
	Place int
	Err   error
}

// Error answers a word that hangs on nothing: the place and the cause are told by Path and Code.
func (w *Woe) Error() string { return "woe" }

// Unwrap answers what caused it; nil of a nil Woe.
func (w *Woe) Unwrap() error {
	if w == nil {
		return nil
	}
	return w.Err
}

// At answers err at a place; nil, if err is nil.
func At(place int, err error) error {
	if err == nil {
		return nil
	}
	return &Woe{Place: place, Err: err}
}

// Of answers the error of a number; nil, if there is none.
func Of(code int) error {
	switch code {
	case 1:
		return api.ErrArg
	case 2:
		return api.ErrNil
	case 3:
		return api.ErrFull
	case 4:
		return api.ErrNone
	case 5:
		return api.ErrState
	case 6:
		return api.ErrFreed
	case 7:
		return api.ErrStale
	case 8:
		return api.ErrTwice
	case 9:
		return api.ErrLeft
	case 10:
		return api.ErrLong
	case 11:
		return api.ErrWord
	}
	return nil
}

// Code answers the least number of those errors that err is; 0 of nil, -1, if it is none of them.
func Code(err error) int {
	if err == nil {
		return 0
	}
	if endless(err, deepest) {
		return -1
	}
	for code := 1; Of(code) != nil; code++ {
		if is(err, Of(code)) {
			return code
		}
	}
	return -1
}

// Place answers the place of the outermost Woe in err; false, if there is none.
func Place(err error) (int, bool) {
	if endless(err, deepest) {
		path := Path(err)
		if len(path) == 0 {
			return 0, false
		}
		return path[0], true
	}
	w := outermost(err)
	if w == nil {
		return 0, false
	}
	return w.Place, true
}

// Path answers the places of the Woes through which err leads by Unwrap, the outermost first.
func Path(err error) []int {
	var path []int
	seen := map[*Woe]struct{}{}
	for room := deepest; err != nil && room > 0; room-- {
		if w := own(err); w != nil {
			// A Woe's fields are open, so it may lead back to itself.
			if _, again := seen[w]; again {
				break
			}
			seen[w] = struct{}{}
			path = append(path, w.Place)
		}
		err = inner(err)
	}
	return path
}
