package glyph

import (
	"strconv"
	"strings"

	"sexton/api"
	"sexton/woe"
)

// place is where this layer's errors are wrapped: the layer.
const place = 2

const (
	plain  = "n"
	marked = "m"
	point  = "."
)

// longest is how many bytes a text has at most; it spares longer ones from being gone through.
const longest = len("m.1024.1099511627776.1099511627776.-1099511627776")

// Pack answers the word's text; ErrArg, if it can't be.
func Pack(w api.Word) (string, error) {
	if !Good(w) {
		return "", woe.At(place, api.ErrArg)
	}
	s := plain
	if w.Mark {
		s = marked
	}
	for _, n := range [...]int{w.Slot, w.Gen, w.Tag, w.Num} {
		s += point + strconv.Itoa(n)
	}
	return s, nil
}

// Unpack answers the word that can be whose text s is; ErrWord, if there is none.
func Unpack(s string) (api.Word, error) {
	w, ok := read(s)
	if !ok {
		return api.Word{}, woe.At(place, api.ErrWord)
	}
	// What is read more freely than it is written would give a word a second text.
	if text, err := Pack(w); err != nil || text != s {
		return api.Word{}, woe.At(place, api.ErrWord)
	}
	return w, nil
}

// read answers the word that s is meant to be, if any; s need not be its text.
func read(s string) (api.Word, bool) {
	if len(s) > longest {
		return api.Word{}, false
	}
	w := api.Word{}
	fields := [...]*int{&w.Slot, &w.Gen, &w.Tag, &w.Num}
	parts := strings.Split(s, point)
	if len(parts) != 1+len(fields) {
		return api.Word{}, false
	}
	w.Mark = parts[0] == marked
	for i, part := range parts[1:] {
		n, err := strconv.Atoi(part)
		if err != nil {
			return api.Word{}, false
		}
		*fields[i] = n
	}
	return w, true
}
