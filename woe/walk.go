package woe

import "errors"

// deepest lies far beyond the nesting for which anything is promised (2^16): what is nested deeper is taken to have no end.
const deepest = 1 << 20

// endless tells whether err is nested deeper than there is room. Of such an error errors.Is and errors.As need not come to an end.
func endless(err error, room int) bool {
	for ; err != nil; room-- {
		if room == 0 {
			return true
		}
		next := inner(err)
		if next == nil {
			return anyEndless(branches(err), room-1)
		}
		err = next
	}
	return false
}

func anyEndless(errs []error, room int) bool {
	for _, err := range errs {
		if endless(err, room) {
			return true
		}
	}
	return false
}

// own answers err itself as a Woe, not what it wraps; nil, if it is none.
func own(err error) *Woe {
	if w, ok := err.(*Woe); ok {
		return w
	}
	return nil
}

// inner answers the one error that err wraps; nil, if there is none.
func inner(err error) error {
	var next error
	calm(func() { next = errors.Unwrap(err) })
	return next
}

// branches answers the errors that err joins. It is for an err without an inner one: errors.As goes no deeper than err then.
func branches(err error) []error {
	var errs []error
	calm(func() {
		var joined interface{ Unwrap() []error }
		if errors.As(err, &joined) {
			errs = joined.Unwrap()
		}
	})
	return errs
}

// is tells whether err, which isn't endless, is target.
func is(err, target error) bool {
	var yes bool
	calm(func() { yes = errors.Is(err, target) })
	return yes
}

// outermost answers the first Woe in err, which isn't endless; nil, if there is none.
func outermost(err error) *Woe {
	var found *Woe
	calm(func() {
		var w *Woe
		if errors.As(err, &w) {
			found = w
		}
	})
	return found
}

// calm runs f, and catches its panic: the methods of other packages' errors may do anything.
func calm(f func()) {
	defer func() { _ = recover() }()
	f()
}
