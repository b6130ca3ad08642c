package litany

import (
	"math"
	"testing"

	"sexton/api"
)

// of lets a walk be asked.
func of(t *testing.T, w *Walk) asks {
	return func(x api.Reply, want api.Call) {
		t.Helper()
		if c, ok := w.Next(x); c != want || !ok || w.Found() {
			t.Fatalf("the next call is %+v, %v, %v; not %+v", c, ok, w.Found(), want)
		}
	}
}

// stands looks at what a walk knows.
func stands(t *testing.T, w *Walk, prev api.Addr, cur, behind api.Word) {
	t.Helper()
	if p, c, n := w.Place(); p != prev || c != cur || n != behind {
		t.Fatalf("%+v, %+v, %+v; not %+v, %+v, %+v", p, c, n, prev, cur, behind)
	}
}

// isOver asks for the end of a walk, behind the reply x, and again, whatever is handed in.
func isOver(t *testing.T, w *Walk, x api.Reply, found bool) {
	t.Helper()
	check := func(x api.Reply) {
		t.Helper()
		if c, ok := w.Next(x); c != (api.Call{}) || ok || w.Found() != found {
			t.Fatalf("%+v, %v, %v", c, ok, w.Found())
		}
	}
	check(x)
	prev, cur, behind := w.Place()
	for _, x := range some {
		check(x)
		stands(t, w, prev, cur, behind)
	}
}

var nothing api.Word

// P9.1, rule 5: a nil walk.
func TestNilWalk(t *testing.T) {
	var w *Walk
	for range 3 {
		isOver(t, w, fine, false)
		stands(t, w, api.Addr{}, nothing, nothing)
	}
}

// P9.1: before anything all is zero, but the cell ahead; the first call is the first one, whatever is handed in with it.
func TestWalkBegins(t *testing.T) {
	for _, first := range firsts {
		for _, x := range some {
			w := NewWalk(first, 5)
			if w.Found() {
				t.Error("found")
			}
			stands(t, w, first, nothing, nothing)
			of(t, w)(x, protect(first, 1))
			stands(t, w, first, nothing, nothing)
		}
	}
}

// P9.1: of nothing.
func TestWalkOfNothing(t *testing.T) {
	for _, first := range firsts {
		for _, none := range []api.Word{{}, {Tag: 7}, {Gen: 4, Tag: 7, Num: -1}} {
			w := NewWalk(first, 0)
			of(t, w)(fine, protect(first, 1))
			isOver(t, w, word(none), false)
			stands(t, w, first, none, nothing)
		}
	}
}

// P9.1: a first cell that is marked is looked at again, with a slot and without one.
func TestWalkFromWhatIsMarked(t *testing.T) {
	w := NewWalk(root, 3)
	a := of(t, w)
	a(fine, protect(root, 1))
	for _, x := range []api.Word{{Slot: 3, Gen: 1, Mark: true}, {Mark: true}, {Tag: 9, Num: 3, Mark: true}} {
		a(word(x), protect(root, 1))
	}
	a.meet(word(three), root, three, five, 3)
	isOver(t, w, word(three), true)
	stands(t, w, root, three, five)
}

// P9.1: to the first slot whose key is the one that is wanted, or above it; its number alone tells.
func TestWalkToASlot(t *testing.T) {
	for _, key := range far {
		for _, k := range far {
			w := NewWalk(root, key)
			a := of(t, w)
			a(fine, protect(root, 1))
			a(word(three), protect(cell(three, 2), 0))
			stands(t, w, root, three, nothing)
			a(word(five), load(cell(three, 0)))
			stands(t, w, root, three, five)
			a(api.Reply{Word: api.Word{Slot: 7, Gen: 7, Tag: 7, Num: k, Mark: true}}, load(root))
			if k < key {
				a(word(three), hold(2, 1))
				stands(t, w, cell(three, 2), three, five)
				continue
			}
			isOver(t, w, word(three), k == key)
			stands(t, w, root, three, five)
		}
	}
}

// P9.1: on from slot to slot, each kept by the announcement that the one ahead had, to the end.
func TestWalkOn(t *testing.T) {
	w := NewWalk(root, 10)
	a := of(t, w)
	a(fine, protect(root, 1))
	slots := []api.Word{three, five, nine}
	prev, cur := root, three
	a(word(cur), protect(cell(cur, 2), 0))
	for i, after := range []api.Word{five, nine, ended} {
		a(word(after), load(cell(cur, 0)))
		stands(t, w, prev, cur, after)
		a(number(i), load(prev))
		a(word(cur), hold(2, 1))
		prev = cell(slots[i], 2)
		stands(t, w, prev, cur, after)
		if i == 2 {
			break
		}
		a(fine, hold(1, 0))
		stands(t, w, prev, after, after)
		cur = after
		a(api.Reply{}, protect(cell(cur, 2), 0))
		stands(t, w, prev, cur, cur)
	}
	isOver(t, w, fine, false)
	stands(t, w, cell(nine, 2), ended, ended)
}

// P9.1: a cell ahead that isn't the same any more lets the walk begin again from the first one; in which generation its slot is can't be seen.
func TestWalkBeginsAgain(t *testing.T) {
	w := NewWalk(api.Addr{Field: 7}, 5)
	a := of(t, w)
	gone := nine
	gone.Mark = true
	x := fine
	for _, after := range []api.Word{nine, ended, gone} {
		for _, change := range []func(*api.Word){
			func(w *api.Word) { w.Slot++ },
			func(w *api.Word) { w.Slot = 0 },
			func(w *api.Word) { w.Tag++ },
			func(w *api.Word) { w.Num-- },
			func(w *api.Word) { w.Mark = true },
		} {
			walkIn(a, x, api.Addr{Field: 7}, after)
			stands(t, w, cell(three, 2), five, after)
			now := five
			change(&now)
			x = word(now)
			a(x, protect(api.Addr{Field: 7}, 1))
			stands(t, w, api.Addr{Field: 7}, five, after)
			now = three
			change(&now)
			a.meet(word(three), api.Addr{Field: 7}, three, after, 5)
			x = word(now)
		}
	}
	walkIn(a, x, api.Addr{Field: 7}, nine)
	now := five
	now.Gen = math.MinInt
	isOver(t, w, word(now), true)
	stands(t, w, cell(three, 2), five, nine)
}

// P9.1: what is marked is led past and retired, wherever it is, whatever its key; what comes in its word's place is looked at next.
func TestWalkLeadsPast(t *testing.T) {
	gone := five
	gone.Mark = true
	for _, key := range []int{math.MinInt, 2, 3, 4, math.MaxInt} {
		w := NewWalk(root, 3)
		a := of(t, w)
		a(fine, protect(root, 1))
		a.meet(word(three), root, three, gone, key)
		now := api.Word{Slot: 50, Gen: 5, Tag: 34}
		a(word(three), swap(root, three, now))
		stands(t, w, root, three, gone)
		a(fine, retire(three))
		stands(t, w, root, three, gone)
		a(api.Reply{}, hold(1, 0))
		stands(t, w, root, now, gone)
		a.meet(fine, root, now, nine, 3)
		isOver(t, w, word(now), true)
		stands(t, w, root, now, nine)
	}
}

// P9.1: behind what is led past there may be nothing.
func TestWalkLeadsPastTheLast(t *testing.T) {
	w := NewWalk(root, 5)
	a := of(t, w)
	gone := ended
	gone.Mark = true
	walkIn(a, fine, root, gone)
	now := api.Word{Gen: 4, Tag: 56}
	a(word(five), swap(cell(three, 2), five, now))
	a(fine, retire(five))
	isOver(t, w, fine, false)
	stands(t, w, cell(three, 2), now, gone)
}

// P9.1: a slot that couldn't be led past lets the walk begin again, and isn't retired.
func TestWalkIsTooLateToLeadPast(t *testing.T) {
	gone := nine
	gone.Mark = true
	for _, x := range []api.Reply{{}, {Word: five}, {Word: three}} {
		w := NewWalk(root, 5)
		a := of(t, w)
		behind := fine
		for range 3 {
			walkIn(a, behind, root, gone)
			a(word(five), swap(cell(three, 2), five, api.Word{Slot: 90, Gen: 9, Tag: 56}))
			behind = x
		}
		a(behind, protect(root, 1))
		stands(t, w, root, five, gone)
		isOver(t, w, word(ended), false)
		stands(t, w, root, ended, gone)
	}
}

// Rule 4: what one walk does is nothing to another one.
func TestWalksAreApart(t *testing.T) {
	one, two := NewWalk(root, 5), NewWalk(root, 5)
	of(t, one)(fine, protect(root, 1))
	isOver(t, one, word(ended), false)
	stands(t, two, root, nothing, nothing)
	of(t, two)(fine, protect(root, 1))
}
