package board

import (
	"math"
	"testing"

	"sexton/api"
	"sexton/glyph"
)

const top = 1 << 40

// P4.2: at the edges.
func TestSay(t *testing.T) {
	for _, c := range []struct {
		s    api.Span
		want api.Word
	}{
		{api.Span{}, api.Word{}},
		{api.Span{Is: true}, api.Word{Mark: true}},
		{api.Span{Is: true, Low: 3, High: 9}, api.Word{Num: 3, Tag: 9, Mark: true}},
		{api.Span{Is: true, Low: 7, High: 7}, api.Word{Num: 7, Tag: 7, Mark: true}},
		{api.Span{Is: true, High: top}, api.Word{Tag: top, Mark: true}},
		{api.Span{Is: true, Low: top, High: top}, api.Word{Num: top, Tag: top, Mark: true}},
	} {
		if w, err := Say(c.s); w != c.want || err != nil {
			t.Errorf("%+v: %+v, %v, not %+v", c.s, w, err, c.want)
		}
	}
	for _, s := range []api.Span{
		{Low: 1}, {High: 1}, {Low: -1}, {High: -1}, {Low: 2, High: 9}, {Low: math.MinInt, High: math.MaxInt},
		{Is: true, Low: -1}, {Is: true, Low: -1, High: -1}, {Is: true, High: -1}, {Is: true, Low: 1}, {Is: true, Low: 9, High: 8},
		{Is: true, High: top + 1}, {Is: true, Low: top + 1, High: top + 1}, {Is: true, Low: top + 1, High: top}, {Is: true, Low: top, High: top - 1},
		{Is: true, Low: math.MinInt, High: math.MaxInt}, {Is: true, Low: math.MaxInt, High: math.MinInt},
	} {
		w, err := Say(s)
		checkErr(t, s, err, api.ErrArg)
		if w != (api.Word{}) {
			t.Errorf("%+v: %+v beside an error", s, w)
		}
	}
}

// P1, P4.2: a span is said, if it can be, by a word that can be, and is heard as it was said.
func TestWhatIsSaidIsHeard(t *testing.T) {
	for _, low := range far {
		for _, high := range far {
			for _, is := range []bool{false, true} {
				s := api.Span{Is: is, Low: low, High: high}
				w, err := Say(s)
				can := is && low >= 0 && high >= low && high <= top || !is && low == 0 && high == 0
				if !can {
					checkErr(t, s, err, api.ErrArg)
					if w != (api.Word{}) {
						t.Errorf("%+v: %+v beside an error", s, w)
					}
					continue
				}
				if err != nil || !glyph.Good(w) || w.Mark != is || Hear(w) != s {
					t.Errorf("%+v is said as %+v, %v, and heard as %+v", s, w, err, Hear(w))
				}
			}
		}
	}
}

// P1, P4.2: any word is heard, by its mark, its number and its tag alone.
func TestHear(t *testing.T) {
	for _, num := range far {
		for _, tag := range far {
			for _, slot := range []int{0, 1, -1, math.MaxInt} {
				w := api.Word{Slot: slot, Gen: -slot, Tag: tag, Num: num}
				if s := Hear(w); s != (api.Span{}) {
					t.Errorf("%+v: %+v", w, s)
				}
				w.Mark = true
				if s := Hear(w); s != (api.Span{Is: true, Low: num, High: tag}) {
					t.Errorf("%+v: %+v", w, s)
				}
			}
		}
	}
}
