package glyph

import (
	"errors"
	"fmt"
	"math"
	"math/rand/v2"
	"strings"
	"testing"

	"sexton/api"
	"sexton/woe"
)

// texts are words with their texts.
var texts = []struct {
	w api.Word
	s string
}{
	{api.Word{}, "n.0.0.0.0"},
	{api.Word{Mark: true}, "m.0.0.0.0"},
	{api.Word{Slot: 5, Gen: 1, Tag: 10, Num: -2}, "n.5.1.10.-2"},
	{api.Word{Slot: 3, Gen: 2, Tag: 9, Num: 4, Mark: true}, "m.3.2.9.4"},
	{api.Word{Slot: 1}, "n.1.0.0.0"},
	{api.Word{Slot: 1, Gen: 1}, "n.1.1.0.0"},
	{api.Word{Tag: 1}, "n.0.0.1.0"},
	{api.Word{Num: 1}, "n.0.0.0.1"},
	{api.Word{Num: -1}, "n.0.0.0.-1"},
	{api.Word{Slot: 10, Gen: 100, Tag: 1000, Num: -10, Mark: true}, "m.10.100.1000.-10"},
	{api.Word{Slot: 1024, Gen: top, Tag: top, Num: top}, "n.1024.1099511627776.1099511627776.1099511627776"},
	{api.Word{Slot: 1024, Gen: top, Tag: top, Num: -top, Mark: true}, "m.1024.1099511627776.1099511627776.-1099511627776"},
}

// checkUnread looks whether s is told to be no word's text.
func checkUnread(t *testing.T, s string) {
	t.Helper()
	if w, err := Unpack(s); w != (api.Word{}) || !errors.Is(err, api.ErrWord) || woe.Code(err) != 11 {
		t.Errorf("%q is read as %+v, %v", s, w, err)
	}
}

// checkOneForm looks whether s, if it is read, would have been written so; it tells whether it is.
func checkOneForm(t *testing.T, s string) bool {
	t.Helper()
	w, err := Unpack(s)
	if err != nil {
		checkUnread(t, s)
		return false
	}
	if back, err := Pack(w); !Good(w) || back != s || err != nil {
		t.Errorf("%q is read as %+v, which is written %q, %v", s, w, back, err)
	}
	return true
}

// P2.3
func TestPackAndUnpack(t *testing.T) {
	for _, x := range texts {
		if s, err := Pack(x.w); s != x.s || err != nil {
			t.Errorf("Pack of %+v is %q, %v", x.w, s, err)
		}
		if w, err := Unpack(x.s); w != x.w || err != nil {
			t.Errorf("Unpack of %q is %+v, %v", x.s, w, err)
		}
	}
}

// P1, P2.3
func TestPackOfWhatCannotBe(t *testing.T) {
	each(func(w api.Word) {
		s, err := Pack(w)
		if Good(w) != (err == nil) || err != nil && (s != "" || !errors.Is(err, api.ErrArg) || woe.Code(err) != 1) {
			t.Fatalf("Pack of %+v is %q, %v", w, s, err)
		}
	})
}

// P1, P2.3
func TestUnpackOfWhatIsNoText(t *testing.T) {
	for _, s := range []string{
		"", "n", "m", ".", "....", "n....", "n.0", "n.0.0", "n.0.0.0", "n.0.0.0.", "n.0.0.0.0.", "n.0.0.0.0.0", ".0.0.0.0", "0.0.0.0", "n0.0.0.0", "n..0.0.0.0", "n..0.0.0", "n.0.0..0",
		"N.0.0.0.0", "M.0.0.0.0", "x.0.0.0.0", "nm.0.0.0.0", "nn.0.0.0.0", "-n.0.0.0.0", "n-.0.0.0.0", "\x00n.0.0.0.0", "n\x00.0.0.0.0",
		" n.0.0.0.0", "n.0.0.0.0 ", "n.0.0.0.0\n", "n. 0.0.0.0", "n.0 .0.0.0", "n,0,0,0,0", "n.0.0.0.0\x00", "n.0.0.0.0n",
		"n.00.0.0.0", "n.01.0.0.0", "n.1.00.0.0", "n.1.01.0.0", "n.0.0.00.0", "n.0.0.01.0", "n.0.0.0.00", "n.0.0.0.01", "n.0.0.0.-01", "n.0.0.0.-0", "n.0.0.0.--1", "n.0.0.0.-", "n.0.0.0.1-", "n.0.0.0.−1",
		"n.+1.0.0.0", "n.1.+1.0.0", "n.0.0.+1.0", "n.0.0.0.+1", "n.0.0.0.+0", "n.-0.0.0.0", "n.0.-0.0.0", "n.0.0.-0.0", "n.-1.0.0.0", "n.1.-1.0.0", "n.0.0.-1.0",
		"n.1025.0.0.0", "n.0.1.0.0", "m.0.1.0.0", "n.1.1099511627777.0.0", "n.0.0.1099511627777.0", "n.0.0.0.1099511627777", "n.0.0.0.-1099511627777",
		"n.1.0.0.9223372036854775807", "n.1.0.0.9223372036854775808", "n.1.0.0.-9223372036854775808", "n.1.0.0.-9223372036854775809", "n.18446744073709551617.0.0.0", "n.4294967297.0.0.0", "n.0.0.18446744073709551616.0",
		"n.0x1.0.0.0", "n.1_0.0.0.0", "n.1e1.0.0.0", "n.0.0.0.0x1", "n.a.0.0.0", "n.0.0.0.1_0", "n.٣.0.0.0", "n.\xff.0.0.0", "\xff\xfe", "n.0.0.0.1.5", "n.0.0.0.1,5",
	} {
		checkUnread(t, s)
	}
}

// P1, P2.3
func TestUnpackOfWhatIsTooLong(t *testing.T) {
	for _, s := range []string{
		strings.Repeat(".", 1<<20), strings.Repeat("n", 1<<20), strings.Repeat("0", 1<<20), "n.0.0.0." + strings.Repeat("0", 1<<20), "n.0.0.0." + strings.Repeat("1", 1<<20),
		"n.0.0.0.-" + strings.Repeat("9", 1<<20), "n.0.0.0.0" + strings.Repeat(".0", 1<<20), "n.1.0.0.0" + strings.Repeat(" ", 1<<20), strings.Repeat("n", 1<<20) + ".0.0.0.0",
	} {
		checkUnread(t, s)
	}
}

// P2.4, P8
func TestWhatWasWrittenIsReadAsItWas(t *testing.T) {
	owner := map[string]api.Word{}
	each(func(w api.Word) {
		s, err := Pack(w)
		if err != nil {
			return
		}
		if v, twice := owner[s]; twice {
			t.Fatalf("%q is the text of %+v and of %+v", s, v, w)
		}
		owner[s] = w
		if back, err := Unpack(s); back != w || err != nil {
			t.Fatalf("%+v is read as %+v, %v", w, back, err)
		}
	})
	if len(owner) == 0 {
		t.Error("nothing was written")
	}
}

// P2.4, P8
func TestManyWordsAreReadAsTheyWere(t *testing.T) {
	r := rand.New(rand.NewPCG(2, 4))
	for range 20000 {
		w := api.Word{Slot: r.IntN(1025), Tag: r.IntN(top+1) >> r.IntN(41), Num: (r.IntN(2*top+1) - top) >> r.IntN(41), Mark: r.IntN(2) == 1}
		if w.Slot > 0 {
			w.Gen = r.IntN(top+1) >> r.IntN(41)
		}
		letter := "n"
		if w.Mark {
			letter = "m"
		}
		want := fmt.Sprintf("%s.%d.%d.%d.%d", letter, w.Slot, w.Gen, w.Tag, w.Num)
		if s, err := Pack(w); s != want || err != nil {
			t.Fatalf("Pack of %+v is %q, %v", w, s, err)
		}
		if back, err := Unpack(want); back != w || err != nil {
			t.Fatalf("%q is read as %+v, %v", want, back, err)
		}
	}
}

// P2.4, P8: texts with one byte changed, put in or taken out.
func TestWhatIsReadWouldHaveBeenWrittenSo(t *testing.T) {
	read := 0
	count := func(s string) {
		if checkOneForm(t, s) {
			read++
		}
	}
	for _, x := range texts {
		for i := range len(x.s) + 1 {
			head, tail := x.s[:i], x.s[i:]
			for b := range 256 {
				count(head + string([]byte{byte(b)}) + tail)
				if tail != "" {
					count(head + string([]byte{byte(b)}) + tail[1:])
				}
			}
			if tail != "" {
				count(head + tail[1:])
			}
		}
	}
	if read < len(texts) {
		t.Errorf("%d were read", read)
	}
}

// P1, P2.4, P8: all texts of four short parts.
func TestShortTextsHaveOneForm(t *testing.T) {
	parts := []string{"", "0", "1", "9", "00", "01", "10", "-", "-0", "-1", "-01", "+", "+0", "+1", "1025", " ", " 1"}
	read := 0
	for _, letter := range []string{"", "n", "m", "N", "nm"} {
		for _, a := range parts {
			for _, b := range parts {
				for _, c := range parts {
					for _, d := range parts {
						if checkOneForm(t, strings.Join([]string{letter, a, b, c, d}, ".")) {
							read++
						}
					}
				}
			}
		}
	}
	// Two letters; the slot 0 in the generation 0, or 3 slots in 5 generations each; 5 tags, 6 numbers.
	if want := 2 * (1 + 3*5) * 5 * 6; read != want {
		t.Errorf("%d were read, not %d", read, want)
	}
}

// P2.3, rule 4: what Pack and Unpack answer hangs on their arguments alone.
func TestTextsDoNotHangOnCallsBefore(t *testing.T) {
	for range 2 {
		checkUnread(t, "n.0.0.0.-0")
		if _, err := Pack(api.Word{Slot: math.MinInt}); !errors.Is(err, api.ErrArg) {
			t.Error(err)
		}
		if w, err := Unpack("n.5.1.10.-2"); w != (api.Word{Slot: 5, Gen: 1, Tag: 10, Num: -2}) || err != nil {
			t.Error(w, err)
		}
	}
}

// P1, P8
func FuzzUnpack(f *testing.F) {
	for _, x := range texts {
		f.Add(x.s)
	}
	f.Fuzz(func(t *testing.T, s string) { checkOneForm(t, s) })
}
