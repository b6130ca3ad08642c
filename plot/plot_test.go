package plot

import (
	"errors"
	"maps"
	"math"
	"slices"
	"testing"

	"sexton/api"
	"sexton/woe"
)

// lay answers a plot that can be.
func lay(t *testing.T, slots, cells int) *Plot {
	t.Helper()
	p, err := New(slots, cells)
	if p == nil || err != nil {
		t.Fatalf("New(%d, %d): %v, %v", slots, cells, p, err)
	}
	return p
}

// must makes an access and looks at its reply.
func must(t *testing.T, p *Plot, a api.Access, want api.Reply) {
	t.Helper()
	if got, err := p.Do(a); got != want || err != nil {
		t.Errorf("Do(%+v): %+v, %v; want %+v", a, got, err, want)
	}
}

// state is all that can be told of a plot without a step.
type state struct {
	cells             map[api.Addr]api.Word
	used              []api.Word
	steps, live, made int
	code              int
	path              []int
}

func tell(p *Plot, cells int) state {
	s := state{cells: map[api.Addr]api.Word{}, used: p.Used(), steps: p.Steps(), live: p.Live(), made: p.Made(), code: woe.Code(p.Fault()), path: woe.Path(p.Fault())}
	look := func(at api.Addr) {
		if w, ok := p.Peek(at); ok {
			s.cells[at] = w
		}
	}
	for f := -1; f <= cells; f++ {
		look(api.Addr{Field: f})
	}
	for _, u := range s.used {
		for f := -1; f <= api.Fields; f++ {
			look(api.Addr{Slot: u.Slot, Gen: u.Gen, Field: f})
		}
	}
	return s
}

func alike(a, b state) bool {
	return maps.Equal(a.cells, b.cells) && slices.Equal(a.used, b.used) && a.steps == b.steps && a.live == b.live && a.made == b.made && a.code == b.code && slices.Equal(a.path, b.path)
}

var farInts = []int{math.MinInt, -1 << 40, -2, -1, 0, 1, 2, 199, 200, 201, 1023, 1024, 1025, 1 << 40, math.MaxInt}

// P1, P3.1
func TestNew(t *testing.T) {
	for _, slots := range farInts {
		for _, cells := range farInts {
			p, err := New(slots, cells)
			if slots < 0 || slots > 1024 || cells < 0 || cells > 200 {
				if p != nil || !errors.Is(err, api.ErrArg) || woe.Code(err) != 1 {
					t.Errorf("New(%d, %d): %v, %v", slots, cells, p, err)
				}
				continue
			}
			if p == nil || err != nil {
				t.Fatalf("New(%d, %d): %v, %v", slots, cells, p, err)
			}
			s := tell(p, cells)
			if len(s.cells) != cells || len(s.used) != 0 || s.steps != 0 || s.live != 0 || s.made != 0 || p.Fault() != nil {
				t.Errorf("New(%d, %d): %+v", slots, cells, s)
			}
			for at, w := range s.cells {
				if w != (api.Word{}) {
					t.Errorf("New(%d, %d): %+v at %+v", slots, cells, w, at)
				}
			}
		}
	}
}

// P1, P3.1, P3.2, P3.3
func TestNilPlot(t *testing.T) {
	var p *Plot
	for kind := -1; kind <= 6; kind++ {
		if r, err := p.Do(api.Access{Kind: kind}); r != (api.Reply{}) || !errors.Is(err, api.ErrNil) || woe.Code(err) != 2 {
			t.Errorf("kind %d: %+v, %v", kind, r, err)
		}
	}
	if w, ok := p.Peek(api.Addr{}); ok || w != (api.Word{}) {
		t.Errorf("Peek: %+v, %t", w, ok)
	}
	if p.Fault() != nil || p.Steps() != 0 || p.Live() != 0 || p.Made() != 0 || len(p.Used()) != 0 {
		t.Error(p.Fault(), p.Steps(), p.Live(), p.Made(), p.Used())
	}
}

// P1: the zero plot has neither slots nor cells.
func TestZeroPlot(t *testing.T) {
	var p Plot
	must(t, &p, api.Access{Kind: api.New}, api.Reply{})
	if _, err := p.Do(api.Access{Kind: api.Load}); !errors.Is(err, api.ErrArg) {
		t.Error(err)
	}
}

// P3.1: the slots are given in their order at first, then the last one that came back.
func TestRow(t *testing.T) {
	p := lay(t, 4, 0)
	give := func(slot, gen int) {
		t.Helper()
		must(t, p, api.Access{Kind: api.New}, api.Reply{Word: api.Word{Slot: slot, Gen: gen}, Ok: true})
	}
	free := func(slot, gen int) {
		t.Helper()
		must(t, p, api.Access{Kind: api.Free, Old: api.Word{Slot: slot, Gen: gen}}, api.Reply{Ok: true})
	}
	give(1, 1)
	give(2, 1)
	give(3, 1)
	free(2, 1)
	free(1, 1)
	if want := []api.Word{{Slot: 3, Gen: 1}}; !slices.Equal(p.Used(), want) || p.Live() != 1 || p.Made() != 3 || p.Steps() != 5 {
		t.Error(p.Used(), p.Live(), p.Made(), p.Steps())
	}
	give(1, 2)
	give(2, 2)
	give(4, 1)
	must(t, p, api.Access{Kind: api.New, New: api.Word{Num: 3}}, api.Reply{})
	must(t, p, api.Access{Kind: api.New}, api.Reply{})
	free(3, 1)
	free(4, 1)
	free(1, 2)
	free(2, 2)
	give(2, 3)
	give(1, 3)
	give(4, 2)
	give(3, 2)
	want := []api.Word{{Slot: 1, Gen: 3}, {Slot: 2, Gen: 3}, {Slot: 3, Gen: 2}, {Slot: 4, Gen: 2}}
	if !slices.Equal(p.Used(), want) || p.Live() != 4 || p.Made() != 10 || p.Steps() != 18 || p.Fault() != nil {
		t.Error(p.Used(), p.Live(), p.Made(), p.Steps(), p.Fault())
	}
}

// P3.1: all slots there can be, each given once.
func TestMostSlots(t *testing.T) {
	p := lay(t, api.MaxSlots, 200)
	for n := 1; n <= api.MaxSlots; n++ {
		must(t, p, api.Access{Kind: api.New, New: api.Word{Num: n}}, api.Reply{Word: api.Word{Slot: n, Gen: 1}, Ok: true})
	}
	must(t, p, api.Access{Kind: api.New}, api.Reply{})
	for n := 1; n <= api.MaxSlots; n++ {
		if w, ok := p.Peek(api.Addr{Slot: n, Gen: 1, Field: api.Birth}); !ok || w != (api.Word{Num: n}) {
			t.Errorf("%d: %+v, %t", n, w, ok)
		}
	}
	if p.Live() != 1024 || p.Made() != 1024 || p.Steps() != 1025 || len(p.Used()) != 1024 {
		t.Error(p.Live(), p.Made(), p.Steps(), len(p.Used()))
	}
	must(t, p, api.Access{Kind: api.Store, At: api.Addr{Field: 199}, New: api.Word{Num: 7}}, api.Reply{Ok: true})
	must(t, p, api.Access{Kind: api.Load, At: api.Addr{Field: 199}}, api.Reply{Word: api.Word{Num: 7}, Ok: true})
}

// P3.1, rule 3: what is answered can be changed without the plot's knowing.
func TestUsedIsNewMemory(t *testing.T) {
	p := lay(t, 2, 0)
	must(t, p, api.Access{Kind: api.New}, api.Reply{Word: api.Word{Slot: 1, Gen: 1}, Ok: true})
	used := p.Used()
	used[0] = api.Word{Slot: 2, Gen: 9}
	_ = append(used[:0], api.Word{}, api.Word{})
	if want := []api.Word{{Slot: 1, Gen: 1}}; !slices.Equal(p.Used(), want) {
		t.Error(p.Used())
	}
}

// P3.3
func TestPeek(t *testing.T) {
	p := lay(t, 2, 3)
	w := api.Word{Slot: 9, Gen: -4, Tag: 8, Num: -7, Mark: true}
	must(t, p, api.Access{Kind: api.Store, At: api.Addr{Field: 2}, New: w}, api.Reply{Ok: true})
	must(t, p, api.Access{Kind: api.New, New: api.Word{Num: 6}}, api.Reply{Word: api.Word{Slot: 1, Gen: 1}, Ok: true})
	must(t, p, api.Access{Kind: api.Store, At: api.Addr{Slot: 1, Gen: 1, Field: 3}, New: w}, api.Reply{Ok: true})
	before := tell(p, 3)
	there := map[api.Addr]api.Word{{Field: 2}: w, {Slot: 1, Gen: 1, Field: 3}: w, {Slot: 1, Gen: 1, Field: 9}: {Num: 6}}
	for _, slot := range farInts {
		for _, gen := range farInts {
			for _, field := range append([]int{3, 9, 10}, farInts...) {
				at := api.Addr{Slot: slot, Gen: gen, Field: field}
				can := slot == 0 && gen == 0 && field >= 0 && field < 3 || slot == 1 && gen == 1 && field >= 0 && field < 10
				if w, ok := p.Peek(at); ok != can || w != there[at] {
					t.Errorf("%+v: %+v, %t", at, w, ok)
				}
			}
		}
	}
	if !alike(before, tell(p, 3)) {
		t.Error("a Peek is told")
	}
}

// P3.3: a slot that is free can't be looked at, in no generation, nor can one that is another one now.
func TestPeekOfFreed(t *testing.T) {
	p := lay(t, 1, 0)
	look := func(gen int, want bool) {
		t.Helper()
		if w, ok := p.Peek(api.Addr{Slot: 1, Gen: gen, Field: 4}); ok != want || w != (api.Word{}) {
			t.Errorf("generation %d: %+v, %t", gen, w, ok)
		}
	}
	look(0, false)
	look(1, false)
	p.Do(api.Access{Kind: api.New})
	look(0, false)
	look(1, true)
	look(2, false)
	p.Do(api.Access{Kind: api.Free, Old: api.Word{Slot: 1, Gen: 1}})
	look(1, false)
	look(2, false)
	p.Do(api.Access{Kind: api.New})
	look(1, false)
	look(2, true)
}
