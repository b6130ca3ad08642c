package board

import (
	"sexton/api"
	"sexton/woe"
)

// Say answers the span's word; ErrArg, if there can't be such a span.
func Say(s api.Span) (api.Word, error) {
	switch {
	case !can(s):
		return api.Word{}, woe.At(place, api.ErrArg)
	case !s.Is:
		return api.Word{}, nil
	}
	return api.Word{Num: s.Low, Tag: s.High, Mark: true}, nil
}

// Hear answers the span of a word, whatever its numbers; the zero span, if it isn't marked.
func Hear(w api.Word) api.Span {
	if !w.Mark {
		return api.Span{}
	}
	return api.Span{Is: true, Low: w.Num, High: w.Tag}
}

// can tells whether there can be such a span: one that isn't has no eras.
func can(s api.Span) bool {
	if !s.Is {
		return s == api.Span{}
	}
	return 0 <= s.Low && s.Low <= s.High && s.High <= api.MaxTag
}
