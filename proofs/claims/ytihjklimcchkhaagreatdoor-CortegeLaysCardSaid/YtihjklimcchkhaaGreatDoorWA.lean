/- goOn and Begin by the other engines, at every state that a mourner's rite comes to: they do what the plain rite does. A template (fill.py). -/
/- goOn by the other engines does what the plain rite does. A template (fill.py). -/
/- What is said of an access of which goOn does what the plain rite does, looked at by evaluation. A template (fill.py). -/
import Derived.Test.YtihjklimcchkhaaGreatDoorUh
import Derived.Test.YtihjklimcchkhaaGreatDoorRA
import Derived.Test.YtihjklimcchkhaaGreatDoorPD
namespace Go.Proofs.YtihjklimcchkhaaGreatDoor
open Go.RowKit Go.Extern.Stop Go.Stop Go.Extern Go.Sort
def Wd.upOk (d : Wd) : Prop := wrap64 (d.tag + 1) = d.tag + 1 ∧ wrap64 (d.num + 1) = d.num + 1
/-- What a rite by another engine than Hazard must be for a contract to speak of it, where its call stands: x is what comes in. -/
def ElseOk (m : Rt) (x : Wd × Bool) : Prop :=
  (m.eng = 1 ∨ m.eng = 3 ∨ m.eng = 4 ∨ m.eng = 5) ∧ m.me < 6 ∧ (1 ≤ m.thr ∧ m.thr ≤ 6) ∧ (m.saysSpan = false → m.span = zs) ∧ m.notes.length ≤ 200 ∧ m.freed ≤ 100000 ∧
  ((m.st.call.kind = 1 ∧ (m.st.done = 0 ∨ (m.st.done = 4 ∧ (⟨true, x.1.num, x.1.num⟩ : Sp).fine) ∨ m.st.done = 2)) ∨ m.st.call.kind = 2 ∨
   ((m.st.call.kind = 3 ∨ m.st.call.kind = 4 ∨ m.st.call.kind = 5) ∧ (m.st.done = 0 ∨ m.st.done = 1)) ∨
   (m.st.call.kind = 6 ∧ (0 ≤ m.st.call.i ∧ m.st.call.i ≤ 8) ∧ (m.st.done = 0 ∨ m.st.done = 2 ∨ m.st.done = 1 ∨
     (m.st.done = 4 ∧ m.countsEras = true ∧ (m.eng = 5 → m.span.is = true ∧ (m.span.high ≠ x.1.num → (⟨true, m.span.low, x.1.num⟩ : Sp).fine))))) ∨
   (m.st.call.kind = 8 ∧ (m.st.done = 0 ∨ m.st.done = 4 ∨ m.st.done = 1)) ∨
   (m.st.call.kind = 9 ∧ (m.st.done = 0 ∨ m.st.done = 1)) ∨
   (m.st.call.kind = 10 ∧ (m.st.done = 0 ∨ (m.st.done = 3 ∧ m.countsEras = true) ∨ (m.st.done = 4 ∧ m.countsEras = true ∧ x.1.upOk) ∨ (m.st.done = 4 ∧ m.eng = 4) ∨ (m.st.done = 5 ∧ m.countsEras = true))) ∨
   (m.st.call.kind = 11 ∧ ((m.st.done = 0 ∧ m.eng ≠ 1 ∧ m.st.said = []) ∨ (m.st.done = 4 ∧ m.eng = 4 ∧ m.st.said = []) ∨
     (m.st.done = 7 ∧ m.eng = 3 ∧ m.st.said.length + 1 < m.thr * 9) ∨
     (m.st.done = 7 ∧ m.eng = 3 ∧ m.st.said.length + 1 = m.thr * 9 ∧ FreeOk (setFree (setSaid m x.1) ((setSaid m x.1).loose x.1.num))) ∨
     (m.st.done = 7 ∧ m.saysSpan = true ∧ m.st.said.length + 1 < m.thr) ∨
     (m.st.done = 7 ∧ m.eng = 5 ∧ m.st.said.length + 1 = m.thr ∧ FreeOk (setFree (setSaid m x.1) ((setSaid m x.1).loose x.1.num))) ∨
     (m.st.done = 7 ∧ m.eng = 4 ∧ m.st.said.length + 1 = m.thr ∧ m.st.clock.upOk) ∨
     (m.st.done = 5 ∧ m.eng = 4) ∨
     (m.st.done = 6 ∧ m.eng = 4 ∧ (0 ≤ x.1.num ∧ x.1.num ≤ 1000000000000000) ∧ FreeOk (setFree m (m.loose x.1.num))) ∨
     (m.st.done = 8 ∧ m.st.pos < m.notes.length ∧ FreeOk (m.strike x.2)))))
theorem says_3 {m : Rt} (h : m.eng = 3) : m.saysSpan = false ∧ m.saysWords = true ∧ m.countsEras = true := by unfold Rt.saysSpan Rt.saysWords Rt.countsEras; rw [h]; exact ⟨rfl, rfl, rfl⟩
theorem says_4 {m : Rt} (h : m.eng = 4) : m.saysSpan = true ∧ m.saysWords = false ∧ m.countsEras = false := by unfold Rt.saysSpan Rt.saysWords Rt.countsEras; rw [h]; exact ⟨rfl, rfl, rfl⟩
theorem says_5 {m : Rt} (h : m.eng = 5) : m.saysSpan = true ∧ m.saysWords = false ∧ m.countsEras = true := by unfold Rt.saysSpan Rt.saysWords Rt.countsEras; rw [h]; exact ⟨rfl, rfl, rfl⟩
theorem counts_of {m : Rt} (h : m.countsEras = true) : m.eng = 3 ∨ m.eng = 5 := by
  unfold Rt.countsEras at h
  simpa using h
theorem spans_of {m : Rt} (h : m.saysSpan = true) : m.eng = 4 ∨ m.eng = 5 := by
  unfold Rt.saysSpan at h
  simpa using h
theorem more_words {m : Rt} (hw : m.saysWords = true) (hl : m.st.said.length < m.thr * 9) : m.more = true := by unfold Rt.more; rw [hw]; simp [hl]
theorem more_span {m : Rt} (hw : m.saysSpan = true) (hl : m.st.said.length < m.thr) : m.more = true := by unfold Rt.more; rw [hw]; simp [hl]
theorem less_words {m : Rt} (hw : m.saysSpan = false) (hl : ¬ m.st.said.length < m.thr * 9) : ¬ m.more = true := by unfold Rt.more; rw [hw]; simp; intro _; omega
theorem less_span {m : Rt} (hw : m.saysWords = false) (hl : ¬ m.st.said.length < m.thr) : ¬ m.more = true := by unfold Rt.more; rw [hw]; simp; intro _; omega
/-- A scan's first look, by what is said. -/
theorem first_hears {m : Rt} (x : Wd × Bool) (he : m.eng = 3 ∨ m.eng = 4 ∨ m.eng = 5) (hsa : m.st.said = []) (ht : 1 ≤ m.thr) : m.hearFirst x = (m.setClock x.1).hear := by
  unfold Rt.hearFirst
  have hl : (m.setClock x.1).st.said.length = 0 := by rw [show (m.setClock x.1).st.said = [] from hsa]; rfl
  have hm : (m.setClock x.1).more = true := by
    rcases he with he | he
    · exact more_words (says_3 (m := m.setClock x.1) he).2.1 (by rw [hl]; show 0 < m.thr * 9; omega)
    · have hs : (m.setClock x.1).saysSpan = true := by rcases he with he | he; exact (says_4 (m := m.setClock x.1) he).1; exact (says_5 (m := m.setClock x.1) he).1
      exact more_span hs (by rw [hl]; show 0 < m.thr; omega)
  show (if (m.setClock x.1).more = true then _ else _) = _
  rw [if_pos hm]
section
variable {w : World} {B r : Nat} {sv fv nv : Value} {m : Rt} {K : Nat → Prop}
theorem keep_lift (h : RiteP w B r sv fv nv m K) {F : Nat} {args : Array Value} (he : m.eng = 1 ∨ m.eng = 3 ∨ m.eng = 4 ∨ m.eng = 5) (hm : m.me < 6) (hi : 0 ≤ m.st.call.i ∧ m.st.call.i ≤ 8) (now : Int) (h5 : m.eng = 5 → m.span.is = true ∧ (m.span.high ≠ now → (⟨true, m.span.low, now⟩ : Sp).fine))
    (hC : ∀ (sv' fv' : Value) (m' : Rt), (∀ W, RtAt W r sv fv nv m → Calls Tryz.prog 122 #[.pointer (some ⟨r, 0, none⟩), .int .i64 now] W (Leaf W r sv' fv' nv m')) → Calls Tryz.prog F args w (Leaf w r sv' fv' nv m')) :
    Calls Tryz.prog F args w (RPost w B r K (m.keep now)) := by
  obtain ⟨hi0, hi8⟩ := hi
  obtain ⟨n, hn⟩ : ∃ n : Nat, m.st.call.i = (n : Int) := ⟨m.st.call.i.toNat, by omega⟩
  have hn9 : n < 9 := by omega
  have hin : (m.st.call.i).toNat = n := by omega
  rcases he with he | he | he | he
  · have e : m.keep now = m.end_ (m.st.seen, true) := by
      unfold Rt.keep
      rw [if_neg (by rw [he]; decide), if_neg (by rw [he]; decide), if_neg (by rw [he]; decide)]
    rw [e]
    exact lift_nil h (hC nilS nilS _ fun W h3 => keep_else h3 (.inl he) n hn now) rfl rfl rfl
  · by_cases h1 : m.kept n = zw
    · have e : m.keep now = m.say n (nw now) := by
        unfold Rt.keep
        rw [if_neg (by rw [he]; decide), if_pos he, hin, if_pos (.inl h1)]
      rw [e]
      exact lift_same h (hC sv fv _ fun W h3 => keep_eras_first h3 n hn9 hn now he hm h1) rfl rfl rfl
    · by_cases h2 : (m.kept n).num = now
      · have e : m.keep now = m.end_ (m.st.seen, true) := by
          unfold Rt.keep
          rw [if_neg (by rw [he]; decide), if_pos he, hin, if_neg (fun k => k.elim h1 (fun k => k h2))]
        rw [e]
        exact lift_nil h (hC nilS nilS _ fun W h3 => keep_eras_same h3 n hn9 hn now he h1 h2) rfl rfl rfl
      · have e : m.keep now = m.say n (nw now) := by
          unfold Rt.keep
          rw [if_neg (by rw [he]; decide), if_pos he, hin, if_pos (.inr h2)]
        rw [e]
        exact lift_same h (hC sv fv _ fun W h3 => keep_eras_say h3 n hn9 hn now he hm h1 h2) rfl rfl rfl
  · have e : m.keep now = m.end_ (m.st.seen, true) := by
      unfold Rt.keep
      rw [if_neg (by rw [he]; decide), if_neg (by rw [he]; decide), if_neg (by rw [he]; decide)]
    rw [e]
    exact lift_nil h (hC nilS nilS _ fun W h3 => keep_else h3 (.inr he) n hn now) rfl rfl rfl
  · obtain ⟨hsi, hfi⟩ := h5 he
    by_cases h2 : m.span.high = now
    · have e : m.keep now = m.end_ (m.st.seen, true) := by
        unfold Rt.keep
        rw [if_neg (by rw [he]; decide), if_neg (by rw [he]; decide), if_pos he, if_neg (fun k => k.elim (fun k => by rw [hsi] at k; cases k) (fun k => k h2))]
      rw [e]
      exact lift_nil h (hC nilS nilS _ fun W h3 => keep_int_same h3 n hn9 hn now he hsi h2) rfl rfl rfl
    · have e : m.keep now = m.saySpan ⟨true, m.span.low, now⟩ := by
        unfold Rt.keep
        rw [if_neg (by rw [he]; decide), if_neg (by rw [he]; decide), if_pos he, if_pos (.inr h2)]
        unfold upTo
        rw [hsi]
        rfl
      rw [e]
      exact lift_same h (hC sv fv _ fun W h3 => keep_int_say h3 n hn9 hn now he hm hsi h2 (hfi h2)) rfl rfl rfl
end
end Go.Proofs.YtihjklimcchkhaaGreatDoor

namespace Go.Proofs.YtihjklimcchkhaaGreatDoor
open Go.RowKit Go.Extern.Stop Go.Stop Go.Extern Go.Sort
section
variable {w : World} {B r : Nat} {sv fv nv : Value} {m : Rt} {K : Nat → Prop}
theorem else_enter (h : RiteP w B r sv fv nv m K) (x : Wd × Bool) (hm : m.me < 6) (hk : m.st.call.kind = 1) (hd : m.st.done = 0 ∨ (m.st.done = 4 ∧ (⟨true, x.1.num, x.1.num⟩ : Sp).fine) ∨ m.st.done = 2) :
    Calls Tryz.prog 56 #[.pointer (some ⟨r, 0, none⟩), rpv x] w (RPost w B r K (m.goOn x)) := by
  have e : m.goOn x = m.enter x := by simp [Rt.goOn, hk]
  rw [e]
  refine goOn_enter h x hk fun W h2 => ?_
  rcases hd with hd | ⟨hd, hf⟩ | hd
  · cases hss : m.saysSpan with
    | true =>
      have e : m.enter x = m.loadClock 4 := by unfold Rt.enter; rw [if_pos hd, if_pos hss]
      rw [e]
      exact lift_same h2 (enter_clock h2.at_ x hd hss) rfl rfl rfl
    | false =>
      have e : m.enter x = m.ok := by unfold Rt.enter; rw [if_pos hd, if_neg (by rw [hss]; decide)]
      rw [e]
      exact lift_nil h2 (enter_ok h2.at_ x hd hss) rfl rfl rfl
  · have e : m.enter x = m.saySpan ⟨true, x.1.num, x.1.num⟩ := by unfold Rt.enter; rw [if_neg (by rw [hd]; decide), if_pos hd]
    rw [e]
    exact lift_same h2 (enter_say h2.at_ x hd hm hf) rfl rfl rfl
  · have e : m.enter x = m.ok := by unfold Rt.enter; rw [if_neg (by rw [hd]; decide), if_neg (by rw [hd]; decide), if_pos hd]
    rw [e]
    exact lift_nil h2 (enter_end h2.at_ x hd) rfl rfl rfl
theorem else_leave (h : RiteP w B r sv fv nv m K) (x : Wd × Bool) (hm : m.me < 6) (hk : m.st.call.kind = 2) :
    Calls Tryz.prog 56 #[.pointer (some ⟨r, 0, none⟩), rpv x] w (RPost w B r K (m.goOn x)) := by
  have e : m.goOn x = m.leave := by simp [Rt.goOn, hk]
  rw [e]
  refine goOn_leave h x hk fun W h2 => ?_
  cases hq : firstKept m.kept 0 9 with
  | none =>
    by_cases hs : m.span = zs
    · have e : m.leave = m.ok := by unfold Rt.leave; rw [hq]; simp [hs]
      rw [e]
      exact lift_nil h2 (leave_ok h2.at_ hq hs) rfl rfl rfl
    · have e : m.leave = m.saySpan zs := by unfold Rt.leave; rw [hq]; simp [hs]
      rw [e]
      exact lift_same h2 (leave_span h2.at_ hm hq hs) rfl rfl rfl
  | some n =>
    have e : m.leave = m.say n zw := by unfold Rt.leave; rw [hq]
    rw [e]
    exact lift_same h2 (leave_say h2.at_ hm n hq) rfl rfl rfl
theorem else_touch (h : RiteP w B r sv fv nv m K) (x : Wd × Bool) (hk : m.st.call.kind = 3 ∨ m.st.call.kind = 4 ∨ m.st.call.kind = 5) (hd : m.st.done = 0 ∨ m.st.done = 1) :
    Calls Tryz.prog 56 #[.pointer (some ⟨r, 0, none⟩), rpv x] w (RPost w B r K (m.goOn x)) := by
  have e : m.goOn x = m.touch x := by rcases hk with hk | hk | hk <;> simp [Rt.goOn, hk]
  rw [e]
  refine goOn_touch h x hk fun W h2 => ?_
  rcases hd with hd | hd
  · have e : m.touch x = m.ask ⟨1 + m.st.call.kind - 3, m.st.call.s, m.st.call.g, m.st.call.f, m.st.call.old, m.st.call.new⟩ 1 := by unfold Rt.touch; rw [hd]; rfl
    rw [e]
    exact lift_same h2 (touch_ask h2.at_ x hd (1 + m.st.call.kind - 3) (by omega) (by omega)) rfl rfl rfl
  · have e : m.touch x = m.end_ x := by unfold Rt.touch; rw [if_pos hd]
    rw [e]
    exact lift_nil h2 (touch_end h2.at_ x hd) rfl rfl rfl
theorem else_drop (h : RiteP w B r sv fv nv m K) (x : Wd × Bool) (hk : m.st.call.kind = 9) (hd : m.st.done = 0 ∨ m.st.done = 1) :
    Calls Tryz.prog 56 #[.pointer (some ⟨r, 0, none⟩), rpv x] w (RPost w B r K (m.goOn x)) := by
  have e : m.goOn x = m.drop := by simp [Rt.goOn, hk]
  rw [e]
  refine goOn_drop h x hk fun W h2 => ?_
  rcases hd with hd | hd
  · have e : m.drop = m.ask ⟨5, 0, 0, 0, m.st.call.old, zw⟩ 1 := by unfold Rt.drop; rw [if_neg (by rw [hd]; decide)]
    rw [e]
    exact lift_same h2 (drop_ask h2.at_ hd) rfl rfl rfl
  · have e : m.drop = m.ok := by unfold Rt.drop; rw [if_pos hd]
    rw [e]
    exact lift_nil h2 (drop_end h2.at_ hd) rfl rfl rfl
theorem else_alloc (h : RiteP w B r sv fv nv m K) (x : Wd × Bool) (hk : m.st.call.kind = 8) (hd : m.st.done = 0 ∨ m.st.done = 4 ∨ m.st.done = 1) :
    Calls Tryz.prog 56 #[.pointer (some ⟨r, 0, none⟩), rpv x] w (RPost w B r K (m.goOn x)) := by
  have e : m.goOn x = m.alloc x := by simp [Rt.goOn, hk]
  rw [e]
  refine goOn_alloc h x hk fun W h2 => ?_
  rcases hd with hd | hd | hd
  · cases hce : m.countsEras with
    | true =>
      have e : m.alloc x = m.loadClock 4 := by unfold Rt.alloc; rw [if_pos hd, if_pos hce]
      rw [e]
      exact lift_same h2 (alloc_clock h2.at_ x hd hce) rfl rfl rfl
    | false =>
      have e : m.alloc x = m.askNew x.1.num := by unfold Rt.alloc; rw [if_pos hd, hce]; rfl
      rw [e]
      exact lift_same h2 (alloc_ask h2.at_ x hd hce) rfl rfl rfl
  · have e : m.alloc x = m.askNew x.1.num := by unfold Rt.alloc; rw [if_neg (by rw [hd]; decide), if_pos hd]
    rw [e]
    exact lift_same h2 (alloc_ask4 h2.at_ x hd) rfl rfl rfl
  · have e : m.alloc x = m.end_ x := by unfold Rt.alloc; rw [if_neg (by rw [hd]; decide), if_neg (by rw [hd]; decide), if_pos hd]
    rw [e]
    exact lift_nil h2 (alloc_end h2.at_ x hd) rfl rfl rfl
theorem else_protect (h : RiteP w B r sv fv nv m K) (x : Wd × Bool) (he : m.eng = 1 ∨ m.eng = 3 ∨ m.eng = 4 ∨ m.eng = 5) (hm : m.me < 6) (hk : m.st.call.kind = 6) (hi : 0 ≤ m.st.call.i ∧ m.st.call.i ≤ 8) (hd : m.st.done = 0 ∨ m.st.done = 2 ∨ m.st.done = 1 ∨
     (m.st.done = 4 ∧ m.countsEras = true ∧ (m.eng = 5 → m.span.is = true ∧ (m.span.high ≠ x.1.num → (⟨true, m.span.low, x.1.num⟩ : Sp).fine)))) :
    Calls Tryz.prog 56 #[.pointer (some ⟨r, 0, none⟩), rpv x] w (RPost w B r K (m.goOn x)) := by
  have e : m.goOn x = m.protect x := by simp [Rt.goOn, hk]
  rw [e]
  refine goOn_protect h x hk fun W h2 => ?_
  have load : m.st.done = 0 ∨ m.st.done = 2 → Calls Tryz.prog 89 (#[.pointer (some ⟨r, 0, none⟩)] ++ #[rpv x]) W (RPost W B r K (m.protect x)) := fun hd => by
    have e : m.protect x = m.load (m.st.call.s, m.st.call.g, m.st.call.f) 1 := by unfold Rt.protect; rw [if_pos hd.symm]
    rw [e]
    exact lift_same h2 (protect_load h2.at_ x hd) rfl rfl rfl
  rcases hd with hd | hd | hd | ⟨hd, hce, h5⟩
  · exact load (.inl hd)
  · exact load (.inr hd)
  · cases hce : m.countsEras with
    | true =>
      have e : m.protect x = (m.see x.1).loadClock 4 := by unfold Rt.protect; rw [if_neg (by rw [hd]; decide), if_pos hd, if_pos hce]
      rw [e]
      exact lift_same h2 (protect_clock h2.at_ x hd hce) rfl rfl rfl
    | false =>
      have e : m.protect x = (m.see x.1).keep x.1.num := by unfold Rt.protect; rw [if_neg (by rw [hd]; decide), if_pos hd, hce]; rfl
      have he' : m.eng = 1 ∨ m.eng = 4 := by
        rcases he with he | he | he | he
        · exact .inl he
        · rw [(says_3 he).2.2] at hce; cases hce
        · exact .inr he
        · rw [(says_5 he).2.2] at hce; cases hce
      have e2 : (m.see x.1).keep x.1.num = (m.see x.1).end_ (x.1, true) := by
        unfold Rt.keep
        have n2 : ¬ m.eng = 2 := by rcases he' with k | k <;> rw [k] <;> decide
        have n3 : ¬ m.eng = 3 := by rcases he' with k | k <;> rw [k] <;> decide
        have n5 : ¬ m.eng = 5 := by rcases he' with k | k <;> rw [k] <;> decide
        rw [if_neg (show ¬ (m.see x.1).eng = 2 from n2), if_neg (show ¬ (m.see x.1).eng = 3 from n3), if_neg (show ¬ (m.see x.1).eng = 5 from n5)]
        rfl
      rw [e, e2]
      obtain ⟨n, hn⟩ : ∃ n : Nat, m.st.call.i = (n : Int) := ⟨m.st.call.i.toNat, by omega⟩
      exact lift_nil h2 (protect_see h2.at_ x hd hce nilS nilS nv _ fun W3 h3 => keep_else h3 he' n hn _) rfl rfl rfl
  · have e : m.protect x = m.keep x.1.num := by unfold Rt.protect; rw [if_neg (by rw [hd]; decide), if_neg (by rw [hd]; decide), if_pos hd]
    rw [e]
    exact keep_lift h2 he hm hi x.1.num h5 fun sv' fv' m' hC => protect_keep4 h2.at_ x hd sv' fv' nv m' hC
theorem else_retire (h : RiteP w B r sv fv nv m K) (x : Wd × Bool) (he : m.eng = 1 ∨ m.eng = 3 ∨ m.eng = 4 ∨ m.eng = 5) (ht : 1 ≤ m.thr ∧ m.thr ≤ 6) (hl : m.notes.length ≤ 200) (hk : m.st.call.kind = 10)
    (hd : m.st.done = 0 ∨ (m.st.done = 3 ∧ m.countsEras = true) ∨ (m.st.done = 4 ∧ m.countsEras = true ∧ x.1.upOk) ∨ (m.st.done = 4 ∧ m.eng = 4) ∨ (m.st.done = 5 ∧ m.countsEras = true)) :
    Calls Tryz.prog 56 #[.pointer (some ⟨r, 0, none⟩), rpv x] w (RPost w B r K (m.goOn x)) := by
  have e : m.goOn x = m.retire x := by simp [Rt.goOn, hk]
  rw [e]
  refine goOn_retire h x hk fun W h2 => ?_
  rcases hd with hd | ⟨hd, hce⟩ | ⟨hd, hce, hu⟩ | ⟨hd, h4⟩ | ⟨hd, hce⟩
  · by_cases h1 : m.eng = 1
    · have e : m.retire x = m.ok := by unfold Rt.retire; rw [if_pos hd, if_pos h1]
      rw [e]
      exact retire_never h2 x hd h1
    · cases hce : m.countsEras with
      | true =>
        have e : m.retire x = m.load (m.st.call.old.slot, m.st.call.old.gen, 9) 3 := by unfold Rt.retire; rw [if_pos hd, if_neg h1, if_pos hce]
        rw [e]
        exact retire_born h2 x hd hce (counts_of hce)
      | false =>
        have h4 : m.eng = 4 := by
          rcases he with k | k | k | k
          · exact absurd k h1
          · rw [(says_3 k).2.2] at hce; cases hce
          · exact k
          · rw [(says_5 k).2.2] at hce; cases hce
        have e : m.retire x = (m.see x.1).loadClock 4 := by
          unfold Rt.retire
          rw [if_pos hd, if_neg h1, if_neg (by rw [hce]; decide)]
          unfold Rt.born
          exact if_neg (show ¬ m.eng = 2 by rw [h4]; decide)
        rw [e]
        exact retire_first_epochs h2 x hd h4
  · have e : m.retire x = (m.see x.1).loadClock 4 := by
      unfold Rt.retire
      rw [if_neg (by rw [hd]; decide), if_pos hd]
      unfold Rt.born
      exact if_neg (show ¬ m.eng = 2 by rcases counts_of hce with k | k <;> rw [k] <;> decide)
    rw [e]
    exact retire_seen h2 x hd (counts_of hce)
  · have e : m.retire x = ((m.setClock x.1).note).turn := by
      unfold Rt.retire
      rw [if_neg (by rw [hd]; decide), if_neg (by rw [hd]; decide), if_pos hd]
      unfold Rt.noted
      exact if_pos (show m.countsEras = true from hce)
    rw [e]
    exact retire_noted_eras h2 x hd hce (counts_of hce) (by omega) hu.1 hu.2
  · have e : m.retire x = ((m.setClock x.1).note).asBelow := by
      unfold Rt.retire
      rw [if_neg (by rw [hd]; decide), if_neg (by rw [hd]; decide), if_pos hd]
      unfold Rt.noted
      exact if_neg (show ¬ m.countsEras = true by rw [(says_4 h4).2.2]; decide)
    rw [e]
    have hnl : ((m.setClock x.1).note).notes.length = m.notes.length + 1 := by show (m.notes ++ [_]).length = _; simp
    by_cases hq : m.notes.length + 1 < m.most
    · have e : ((m.setClock x.1).note).asBelow = ((m.setClock x.1).note).ok := by unfold Rt.asBelow; rw [hnl]; exact if_pos hq
      rw [e]
      exact retire_noted_few h2 x hd h4 (by omega) hq
    · have e : ((m.setClock x.1).note).asBelow = (scanning ((m.setClock x.1).note)).loadClock 4 := by
        unfold Rt.asBelow
        rw [hnl, if_neg (show ¬ m.notes.length + 1 < ((m.setClock x.1).note).most from hq)]
        show (scanning ((m.setClock x.1).note)).scan (zw, false) = _
        unfold Rt.scan
        rw [if_pos (show (scanning ((m.setClock x.1).note)).st.done = 0 from rfl), if_neg (show ¬ (scanning ((m.setClock x.1).note)).eng = 1 from by show ¬ m.eng = 1; rw [h4]; decide), if_pos (show (scanning ((m.setClock x.1).note)).eng = 4 from h4)]
      rw [e]
      exact retire_noted_many h2 x hd h4 (by omega) hq
  · have e : m.retire x = m.asBelow := by
      unfold Rt.retire
      rw [if_neg (by rw [hd]; decide), if_neg (by rw [hd]; decide), if_neg (by rw [hd]; decide), if_pos hd]
    rw [e]
    by_cases hq : m.notes.length < m.most
    · have e : m.asBelow = m.ok := by unfold Rt.asBelow; exact if_pos hq
      rw [e]
      exact retire_turned_few h2 x hd hq
    · have hc := counts_of hce
      have e : m.asBelow = ((scanning m).setClock zw).hear := by
        unfold Rt.asBelow
        rw [if_neg hq]
        show (scanning m).scan (zw, false) = _
        unfold Rt.scan
        rw [if_pos (show (scanning m).st.done = 0 from rfl), if_neg (show ¬ (scanning m).eng = 1 from by show ¬ m.eng = 1; rcases hc with k | k <;> rw [k] <;> decide), if_neg (show ¬ (scanning m).eng = 4 from by show ¬ m.eng = 4; rcases hc with k | k <;> rw [k] <;> decide)]
        exact first_hears (m := scanning m) (zw, false) (by rcases hc with k | k; exact .inl k; exact .inr (.inr k)) rfl ht.1
      rw [e]
      rcases hc with k | k
      · exact retire_turned_eras h2 x hd hq k ht
      · exact retire_turned_int h2 x hd hq k ht
theorem else_scan (h : RiteP w B r sv fv nv m K) (x : Wd × Bool) (he : m.eng = 1 ∨ m.eng = 3 ∨ m.eng = 4 ∨ m.eng = 5) (ht : 1 ≤ m.thr ∧ m.thr ≤ 6) (hl : m.notes.length ≤ 200) (hf : m.freed ≤ 100000) (hk : m.st.call.kind = 11)
    (hd : (m.st.done = 0 ∧ m.eng ≠ 1 ∧ m.st.said = []) ∨ (m.st.done = 4 ∧ m.eng = 4 ∧ m.st.said = []) ∨
     (m.st.done = 7 ∧ m.eng = 3 ∧ m.st.said.length + 1 < m.thr * 9) ∨
     (m.st.done = 7 ∧ m.eng = 3 ∧ m.st.said.length + 1 = m.thr * 9 ∧ FreeOk (setFree (setSaid m x.1) ((setSaid m x.1).loose x.1.num))) ∨
     (m.st.done = 7 ∧ m.saysSpan = true ∧ m.st.said.length + 1 < m.thr) ∨
     (m.st.done = 7 ∧ m.eng = 5 ∧ m.st.said.length + 1 = m.thr ∧ FreeOk (setFree (setSaid m x.1) ((setSaid m x.1).loose x.1.num))) ∨
     (m.st.done = 7 ∧ m.eng = 4 ∧ m.st.said.length + 1 = m.thr ∧ m.st.clock.upOk) ∨
     (m.st.done = 5 ∧ m.eng = 4) ∨
     (m.st.done = 6 ∧ m.eng = 4 ∧ (0 ≤ x.1.num ∧ x.1.num ≤ 1000000000000000) ∧ FreeOk (setFree m (m.loose x.1.num))) ∨
     (m.st.done = 8 ∧ m.st.pos < m.notes.length ∧ FreeOk (m.strike x.2))) :
    Calls Tryz.prog 56 #[.pointer (some ⟨r, 0, none⟩), rpv x] w (RPost w B r K (m.goOn x)) := by
  have e : m.goOn x = m.scan x := by simp [Rt.goOn, hk]
  rw [e]
  refine goOn_scan h x hk fun W h2 => ?_
  have sl : (setSaid m x.1).st.said.length = m.st.said.length + 1 := by show (m.st.said ++ [x.1]).length = _; simp
  have at7 : m.st.done = 7 → m.scan x = if (setSaid m x.1).more = true then (setSaid m x.1).hear else if (setSaid m x.1).eng = 4 ∧ mayTurn (setSaid m x.1).st.clock.num (setSaid m x.1).st.said = true then (setSaid m x.1).turn else (setSaid m x.1).heardAll x := fun hd => by
    unfold Rt.scan
    rw [if_neg (by rw [hd]; decide), if_neg (by rw [hd]; decide), if_pos hd]
    rfl
  rcases hd with ⟨hd, h1, hsa⟩ | ⟨hd, h4, hsa⟩ | ⟨hd, h3, hsl⟩ | ⟨hd, h3, hsl, hF⟩ | ⟨hd, hss, hsl⟩ | ⟨hd, h5, hsl, hF⟩ | ⟨hd, h4, hsl, hu⟩ | ⟨hd, h4⟩ | ⟨hd, h4, hn, hF⟩ | ⟨hd, hp, hF⟩
  · rcases he with he | he | he | he
    · exact absurd he h1
    · have e : m.scan x = (m.setClock x.1).hear := by
        unfold Rt.scan
        rw [if_pos hd, if_neg h1, if_neg (by rw [he]; decide)]
        exact first_hears x (.inl he) hsa ht.1
      rw [e]
      exact scan_first_eras h2 x hd he hsa ht
    · have e : m.scan x = m.loadClock 4 := by
        unfold Rt.scan
        rw [if_pos hd, if_neg h1, if_pos he]
      rw [e]
      exact scan_clock h2 x hd he
    · have e : m.scan x = (m.setClock x.1).hear := by
        unfold Rt.scan
        rw [if_pos hd, if_neg h1, if_neg (by rw [he]; decide)]
        exact first_hears x (.inr (.inr he)) hsa ht.1
      rw [e]
      exact scan_first_int h2 x hd he hsa ht
  · have e : m.scan x = (m.setClock x.1).hear := by
      unfold Rt.scan
      rw [if_neg (by rw [hd]; decide), if_pos hd]
      exact first_hears x (.inr (.inl h4)) hsa ht.1
    rw [e]
    exact scan_first_epochs h2 x hd h4 hsa ht
  · have e : m.scan x = (setSaid m x.1).hear := by
      rw [at7 hd, if_pos (more_words (says_3 (m := setSaid m x.1) h3).2.1 (by rw [sl]; exact hsl))]
    rw [e]
    exact scan_more_eras h2 x hd h3 ht.2 hsl
  · have e : m.scan x = (setSaid m x.1).free x.1.num := by
      rw [at7 hd, if_neg (less_words (says_3 (m := setSaid m x.1) h3).1 (by rw [sl]; show ¬ _ < m.thr * 9; omega)), if_neg (fun k => by have := k.1; rw [show (setSaid m x.1).eng = 3 from h3] at this; exact absurd this (by decide))]
      unfold Rt.heardAll
      rw [if_neg (show ¬ (setSaid m x.1).eng = 4 by rw [show (setSaid m x.1).eng = 3 from h3]; decide)]
    rw [e]
    exact scan_all_eras h2 x hd h3 ht.2 hsl hl hF
  · have e : m.scan x = (setSaid m x.1).hear := by
      rw [at7 hd, if_pos (more_span (m := setSaid m x.1) hss (by rw [sl]; exact hsl))]
    rw [e]
    rcases spans_of hss with k | k
    · exact scan_more_epochs h2 x hd k ht.2 hsl
    · exact scan_more_int h2 x hd k ht.2 hsl
  · have e : m.scan x = (setSaid m x.1).free x.1.num := by
      rw [at7 hd, if_neg (less_span (says_5 (m := setSaid m x.1) h5).2.1 (by rw [sl]; show ¬ _ < m.thr; omega)), if_neg (fun k => by have := k.1; rw [show (setSaid m x.1).eng = 5 from h5] at this; exact absurd this (by decide))]
      unfold Rt.heardAll
      rw [if_neg (show ¬ (setSaid m x.1).eng = 4 by rw [show (setSaid m x.1).eng = 5 from h5]; decide)]
    rw [e]
    exact scan_all_int h2 x hd h5 ht.2 hsl hl hF
  · refine scan_all_epochs h2 x hd h4 ht.2 hsl hl hu.1 hu.2 _ ?_
    rw [at7 hd, if_neg (less_span (says_4 (m := setSaid m x.1) h4).2.1 (by rw [sl]; show ¬ _ < m.thr; omega))]
    show (if (setSaid m x.1).eng = 4 ∧ mayTurn m.st.clock.num _ = true then _ else _) = _
    by_cases hq : mayTurn m.st.clock.num (setSaid m x.1).st.said = true
    · rw [if_pos ⟨h4, hq⟩, if_pos hq]
    · rw [if_neg (fun k => hq k.2), if_neg hq]
      unfold Rt.heardAll
      exact if_pos h4
  · have e : m.scan x = m.loadClock 6 := by
      unfold Rt.scan
      rw [if_neg (by rw [hd]; decide), if_neg (by rw [hd]; decide), if_neg (by rw [hd]; decide), if_pos hd]
      unfold Rt.heardAll
      exact if_pos h4
    rw [e]
    exact scan_turned h2 x hd h4
  · have e : m.scan x = m.free x.1.num := by
      unfold Rt.scan
      rw [if_neg (by rw [hd]; decide), if_neg (by rw [hd]; decide), if_neg (by rw [hd]; decide), if_neg (by rw [hd]; decide), if_pos hd]
    rw [e]
    exact scan_timed h2 x hd h4 hn hl hF
  · have e : m.scan x = (m.strike x.2).release := by
      unfold Rt.scan
      rw [if_neg (by rw [hd]; decide), if_neg (by rw [hd]; decide), if_neg (by rw [hd]; decide), if_neg (by rw [hd]; decide), if_neg (by rw [hd]; decide), if_pos hd]
    rw [e]
    exact scan_freed h2 x hd hp (by omega) hf hF
theorem goOn_else (h : RiteP w B r sv fv nv m K) (x : Wd × Bool) (ok : ElseOk m x) :
    Calls Tryz.prog 56 #[.pointer (some ⟨r, 0, none⟩), rpv x] w (RPost w B r K (m.goOn x)) := by
  obtain ⟨he, hm, ht, _, hl, hf, hc⟩ := ok
  rcases hc with ⟨hk, hd⟩ | hk | ⟨hk, hd⟩ | ⟨hk, hi, hd⟩ | ⟨hk, hd⟩ | ⟨hk, hd⟩ | ⟨hk, hd⟩ | ⟨hk, hd⟩
  · exact else_enter h x hm hk hd
  · exact else_leave h x hm hk
  · exact else_touch h x hk hd
  · exact else_protect h x he hm hk hi hd
  · exact else_alloc h x hk hd
  · exact else_drop h x hk hd
  · exact else_retire h x he ht hl hk hd
  · exact else_scan h x he ht hl hf hk hd
/-- goOn by any engine. -/
def AnyOk (m : Rt) (x : Wd × Bool) : Prop := HazOk m x ∨ ElseOk m x
theorem ElseOk.go {x : Wd × Bool} (ok : ElseOk m x) : GoOk m x := fun _ _ _ _ _ _ _ h => goOn_else h x ok
theorem AnyOk.go {x : Wd × Bool} (ok : AnyOk m x) : GoOk m x := ok.elim HazOk.go ElseOk.go
end
end Go.Proofs.YtihjklimcchkhaaGreatDoor

namespace Go.Proofs.YtihjklimcchkhaaGreatDoor
instance (c : Cl) : Decidable c.fine := by unfold Cl.fine; infer_instance
/-- What is said of an access amid entering, protecting, leaving: goOn does what the plain rite does. -/
def goB (m : Rt) (x : Wd × Bool) : Bool :=
  decide (m.me < 6) && decide (1 ≤ m.thr) && decide (m.thr ≤ 6) && decide (m.notes.length ≤ 200) && decide (m.freed ≤ 100000) &&
  ((decide (m.eng = 2) && decide (m.span = zs) && ((decide (m.st.call.kind = 1) && decide (m.st.done = 0)) || decide (m.st.call.kind = 2) ||
      (decide (m.st.call.kind = 6) && decide (0 ≤ m.st.call.i) && decide (m.st.call.i ≤ 8) && (decide (m.st.done = 0) || decide (m.st.done = 2) || decide (m.st.done = 1))))) ||
   ((decide (m.eng = 1) || decide (m.eng = 3) || decide (m.eng = 4) || decide (m.eng = 5)) && (m.saysSpan || decide (m.span = zs)) &&
     ((decide (m.st.call.kind = 1) && (decide (m.st.done = 0) || decide (m.st.done = 2) || (decide (m.st.done = 4) && Bd.canB true x.1.num x.1.num))) || decide (m.st.call.kind = 2) ||
      (decide (m.st.call.kind = 6) && decide (0 ≤ m.st.call.i) && decide (m.st.call.i ≤ 8) && (decide (m.st.done = 0) || decide (m.st.done = 2) || decide (m.st.done = 1) ||
        (decide (m.st.done = 4) && m.countsEras && (decide (¬ m.eng = 5) || (m.span.is && (decide (m.span.high = x.1.num) || Bd.canB true m.span.low x.1.num)))))))))
theorem goB_ok {m : Rt} {x : Wd × Bool} (h : goB m x = true) : GoOk m x := by
  unfold goB at h
  simp only [Bool.and_eq_true, Bool.or_eq_true, decide_eq_true_eq] at h
  obtain ⟨⟨⟨⟨⟨h1, h2⟩, h3⟩, h4⟩, h5⟩, h | h⟩ := h
  · obtain ⟨⟨he, hs⟩, h⟩ := h
    refine HazOk.go ⟨he, h1, ⟨h2, h3⟩, hs, h4, h5, ?_⟩
    rcases h with (⟨hk, hd⟩ | hk) | ⟨⟨⟨hk, hi⟩, hj⟩, hd⟩
    · exact .inl ⟨hk, hd⟩
    · exact .inr (.inl hk)
    · exact .inr (.inr (.inr (.inl ⟨hk, ⟨hi, hj⟩, by omega⟩)))
  · obtain ⟨⟨he, hs⟩, h⟩ := h
    refine ElseOk.go ⟨by omega, h1, ⟨h2, h3⟩, fun k => hs.elim (fun e => by rw [k] at e; cases e) id, h4, h5, ?_⟩
    rcases h with (⟨hk, hd⟩ | hk) | ⟨⟨⟨hk, hi⟩, hj⟩, hd⟩
    · refine .inl ⟨hk, ?_⟩
      rcases hd with (hd | hd) | ⟨hd, hf⟩
      · exact .inl hd
      · exact .inr (.inr hd)
      · exact .inr (.inl ⟨hd, hf⟩)
    · exact .inr (.inl hk)
    · refine .inr (.inr (.inr (.inl ⟨hk, ⟨hi, hj⟩, ?_⟩)))
      rcases hd with ((hd | hd) | hd) | ⟨⟨hd, hc⟩, hf⟩
      · exact .inl hd
      · exact .inr (.inl hd)
      · exact .inr (.inr (.inl hd))
      · refine .inr (.inr (.inr ⟨hd, hc, fun e5 => ?_⟩))
        rcases hf with hf | ⟨hi, hf⟩
        · exact absurd e5 hf
        · exact ⟨hi, fun hn => hf.elim (fun e => absurd e hn) id⟩
end Go.Proofs.YtihjklimcchkhaaGreatDoor
