/- PileEmpty as plain data: a worker alone on an empty stack, one state behind the other, looked at by evaluation. A template (fill.py). -/
/- rest: all workers come to their ends on an empty stack. A template (fill.py). -/
import Derived.Test.YtihjklimcchkhaaGreatDoorPD
import Derived.Test.YtihjklimcchkhaaGreatDoorWA
import Derived.Test.YtihjklimcchkhaaGreatDoorPr
import Derived.LoopTactic
namespace Go.Proofs.YtihjklimcchkhaaGreatDoor
instance (o : Po) : Decidable o.can := by unfold Po.can; infer_instance
instance (j : Jb) : Decidable (JOk j) := by unfold JOk; infer_instance
instance (c : Cl) : Decidable c.fine := by unfold Cl.fine; infer_instance
/-- What is said of an access amid entering, protecting, leaving: goOn does what the plain rite does. -/
def goB (m : Rt) (x : Wd × Bool) : Bool :=
  decide (m.me < 6) && decide (1 ≤ m.thr) && decide (m.thr ≤ 6) && decide (m.notes.length ≤ 200) && decide (m.freed ≤ 100000) &&
  ((decide (m.eng = 2) && decide (m.span = zs) && ((decide (m.st.call.kind = 1) && decide (m.st.done = 0)) || decide (m.st.call.kind = 2) ||
      (decide (m.st.call.kind = 6) && decide (0 ≤ m.st.call.i) && decide (m.st.call.i ≤ 8) && (decide (m.st.done = 0) || decide (m.st.done = 2) || decide (m.st.done = 1))))) ||
   ((decide (m.eng = 1) || decide (m.eng = 3) || decide (m.eng = 4) || decide (m.eng = 5)) && (m.saysSpan || decide (m.span = zs)) &&
     ((decide (m.st.call.kind = 1) && (decide (m.st.done = 0) || decide (m.st.done = 2) || (decide (m.st.done = 4) && Bd.canB true x.1.num x.1.num))) || decide (m.st.call.kind = 2) ||
      (decide (m.st.call.kind = 6) && decide (0 ≤ m.st.call.i) && decide (m.st.call.i ≤ 8) && (decide (m.st.done = 0) || decide (m.st.done = 2) || decide (m.st.done = 1) ||
        (decide (m.st.done = 4) && m.countsEras && (decide (¬ m.eng = 5) || (m.span.is && (decide (m.span.high = x.1.num) || Bd.canB true m.span.low x.1.num)))))))))
theorem goB_ok {m : Rt} {x : Wd × Bool} (h : goB m x = true) : GoOk m x := by
  unfold goB at h
  simp only [Bool.and_eq_true, Bool.or_eq_true, decide_eq_true_eq] at h
  obtain ⟨⟨⟨⟨⟨h1, h2⟩, h3⟩, h4⟩, h5⟩, h | h⟩ := h
  · obtain ⟨⟨he, hs⟩, h⟩ := h
    refine HazOk.go ⟨he, h1, ⟨h2, h3⟩, hs, h4, h5, ?_⟩
    rcases h with (⟨hk, hd⟩ | hk) | ⟨⟨⟨hk, hi⟩, hj⟩, hd⟩
    · exact .inl ⟨hk, hd⟩
    · exact .inr (.inl hk)
    · exact .inr (.inr (.inr (.inl ⟨hk, ⟨hi, hj⟩, by omega⟩)))
  · obtain ⟨⟨he, hs⟩, h⟩ := h
    refine ElseOk.go ⟨by omega, h1, ⟨h2, h3⟩, fun k => hs.elim (fun e => by rw [k] at e; cases e) id, h4, h5, ?_⟩
    rcases h with (⟨hk, hd⟩ | hk) | ⟨⟨⟨hk, hi⟩, hj⟩, hd⟩
    · refine .inl ⟨hk, ?_⟩
      rcases hd with (hd | hd) | ⟨hd, hf⟩
      · exact .inl hd
      · exact .inr (.inr hd)
      · exact .inr (.inl ⟨hd, hf⟩)
    · exact .inr (.inl hk)
    · refine .inr (.inr (.inr (.inl ⟨hk, ⟨hi, hj⟩, ?_⟩)))
      rcases hd with ((hd | hd) | hd) | ⟨⟨hd, hc⟩, hf⟩
      · exact .inl hd
      · exact .inr (.inl hd)
      · exact .inr (.inr (.inl hd))
      · refine .inr (.inr (.inr ⟨hd, hc, fun e5 => ?_⟩))
        rcases hf with hf | ⟨hi, hf⟩
        · exact absurd e5 hf
        · exact ⟨hi, fun hn => hf.elim (fun e => absurd e hn) id⟩
def wNextB (x : Rt × Wr) : Bool :=
  match x.2.j with
  | none => if x.2.inn then goB (x.1.at_ (cl 2)) (zw, false) else
    match x.2.ops[x.2.said.length]? with
    | none => false
    | some o => decide o.can && goB (x.1.at_ (cl 1)) (zw, false)
  | some j => decide (x.2.said.length ≤ 1000) && decide (JOk j) && (decide ((j.next x.1.st.last).call.kind = 12) || (decide ((j.next x.1.st.last).code = 0) && decide ((j.next x.1.st.last).aval = 0) && decide (j.next x.1.st.last).call.fine && goB (x.1.at_ (j.next x.1.st.last).call) (zw, false)))
theorem wNextB_ok {x : Rt × Wr} (h : wNextB x = true) : WNext x := by
  unfold wNextB at h
  unfold WNext
  cases hj : x.2.j with
  | none =>
    rw [hj] at h
    simp only at h ⊢
    cases hi : x.2.inn with
    | true =>
      rw [hi] at h
      exact goB_ok h
    | false =>
      rw [hi] at h
      simp only [Bool.false_eq_true, if_false] at h ⊢
      cases ho : x.2.ops[x.2.said.length]? with
      | none => rw [ho] at h; cases h
      | some o =>
        rw [ho] at h
        simp only [Bool.and_eq_true, decide_eq_true_eq] at h
        exact ⟨h.1, goB_ok h.2⟩
  | some j =>
    rw [hj] at h
    simp only [Bool.and_eq_true, Bool.or_eq_true, decide_eq_true_eq] at h ⊢
    obtain ⟨⟨h1, h2⟩, h3⟩ := h
    refine ⟨h1, h2, fun hn => ?_⟩
    rcases h3 with h3 | ⟨⟨⟨a, b⟩, c⟩, d⟩
    · exact absurd h3 hn
    · exact ⟨a, b, c, goB_ok d⟩
def wOkB : Nat → Rt × Wr → Bool
  | 0, x => wover x
  | n + 1, x => wover x || (wNextB x && wOkB n (wbeg x))
theorem wOkB_ok : ∀ {n : Nat} {x : Rt × Wr}, wOkB n x = true → WOk n x
  | 0, _, h => h
  | n + 1, x, h => by
    unfold wOkB at h
    simp only [Bool.or_eq_true, Bool.and_eq_true] at h
    exact h.imp id fun ⟨h1, h2⟩ => ⟨wNextB_ok h1, wOkB_ok h2⟩
/-- What an access is answered on a heap whose root has nothing, at the first era. -/
def envRep (a : Ac) : Wd × Bool := if a.kind = 1 then (if a.f = 24 then (nw 1, true) else (zw, true)) else (zw, true)
def okAc (a : Ac) : Bool := decide (a.s = 0) && decide (a.g = 0) && ((decide (a.kind = 1) && (decide (a.f = 0) || decide (a.f = 24))) || (decide (a.kind = 2) && decide (25 ≤ a.f) && decide (a.f < 85)))
/-- A worker's step there. -/
def trajStep (x : Rt × Wr) : Rt × Wr := if (wto 199 x).1.st.busy then ((wto 199 x).1.goOn (envRep (wto 199 x).1.st.acc), (wto 199 x).2) else wto 199 x
def doneB (x : Rt × Wr) : Bool := !x.1.st.busy && x.2.j.isNone && !x.2.inn && decide (x.2.ops.length ≤ x.2.said.length) && decide (x.2.said = [(2, 0), (2, 0), (2, 0)])
/-- It comes to its end within so many steps, each of them good. -/
def runB : Nat → Rt × Wr → Bool
  | 0, _ => false
  | f + 1, x => wOkB 199 x && (if (wto 199 x).1.st.busy then okAc (wto 199 x).1.st.acc && goB (wto 199 x).1 (envRep (wto 199 x).1.st.acc) && runB f (trajStep x) else doneB (wto 199 x))
def ops3 : List Po := [⟨2, 0, 0, 0⟩, ⟨3, 0, 0, 0⟩, ⟨2, 0, 0, 0⟩]
def wStart (e : Int) (me thr : Nat) : Rt × Wr := (Rt.new e me thr 2, ⟨ops3, [], none, false⟩)
set_option maxRecDepth 100000 in
theorem run_all : ((List.range 5).all fun e => (List.range 6).all fun t => (List.range (t + 1)).all fun me => runB 100 (wStart ((e : Int) + 1) me (t + 1))) = true := by decide +kernel
theorem run_start {e : Nat} {me thr : Nat} (he : e < 5) (ht : 1 ≤ thr ∧ thr ≤ 6) (hm : me < thr) : runB 100 (wStart ((e : Int) + 1) me thr) = true := by
  have h := run_all
  rw [List.all_eq_true] at h
  have h1 := h e (List.mem_range.2 he)
  rw [List.all_eq_true] at h1
  have h2 := h1 (thr - 1) (List.mem_range.2 (by omega))
  rw [List.all_eq_true] at h2
  have h3 := h2 me (List.mem_range.2 (by omega))
  rwa [show thr - 1 + 1 = thr by omega] at h3
/-- The end is where it stays. -/
theorem run_done {x : Rt × Wr} (h : doneB x = true) (f : Nat) : wover x = true ∧ wto 199 x = x ∧ runB (f + 1) x = true := by
  have h' := h
  unfold doneB at h'
  simp only [Bool.and_eq_true, Bool.not_eq_true', decide_eq_true_eq] at h'
  obtain ⟨⟨⟨⟨h1, h2⟩, h3⟩, h4⟩, h5⟩ := h'
  have ho : wover x = true := by unfold wover; rw [h2, h3]; simp [h4]
  have ht : wto 199 x = x := wto_over ho
  refine ⟨ho, ht, ?_⟩
  unfold runB
  rw [ht, h1]
  have hw : wOkB 199 x = true := by show (wover x || _) = true; rw [ho]; rfl
  rw [hw]
  simpa using h
/-! ### the heap -/
structure Em (t : St) : Prop where
  n : t.n = 3
  m : t.m = 85
  root : t.board 0 = zw
  era : t.board 24 = nw 1
  made : t.made = 0
  fault : t.fault = none
  free : t.free = List.range 3
theorem em_step {t : St} (h : Em t) {a : Ac} (ha : okAc a = true) : t.can a = true ∧ (t.step a).2 = envRep a ∧ Em (t.step a).1 ∧ (t.step a).1.steps = t.steps + 1 := by
  unfold okAc at ha
  simp only [Bool.and_eq_true, Bool.or_eq_true, decide_eq_true_eq] at ha
  obtain ⟨⟨hs, hg⟩, hk⟩ := ha
  have hm : ∀ x, ({ t with steps := t.steps + 1 } : St).miss a.s a.g x = none := fun x => by unfold St.miss; rw [if_neg (by omega)]
  have hf : 0 ≤ a.f ∧ a.f < 85 := by omega
  have hl : ∀ s : Nat, ({ t with steps := s } : St).loc a.s a.g a.f = some (.board a.f.toNat) := fun s => by
    unfold St.loc
    rw [if_pos ⟨hs, hg⟩, if_pos ⟨hf.1, by show a.f < ((t.m : Nat) : Int); rw [h.m]; exact hf.2⟩]
  have hc : t.can a = true := by
    unfold St.can
    rw [if_pos (by omega)]
    have := hl t.steps
    show (t.loc a.s a.g a.f).isSome = true
    rw [show t.loc a.s a.g a.f = some (.board a.f.toNat) from this]; rfl
  have hw : ({ t with steps := t.steps + 1 } : St).wrong a = none := by
    unfold St.wrong
    rw [if_neg (by omega), if_neg (by omega)]
    exact hm _
  have hst : t.step a = ({ t with steps := t.steps + 1 } : St).touch (.board a.f.toNat) a := by
    unfold St.step St.act
    rw [hw]
    simp only
    rw [if_neg (by omega), if_neg (by omega), hl]
  refine ⟨hc, ?_⟩
  rw [hst]
  rcases hk with ⟨hk, hf'⟩ | ⟨⟨hk, h25⟩, h85⟩
  · unfold St.touch
    rw [if_pos hk]
    refine ⟨?_, ⟨h.n, h.m, h.root, h.era, h.made, h.fault, h.free⟩, rfl⟩
    unfold envRep
    rw [if_pos hk]
    rcases hf' with e | e
    · rw [if_neg (by omega), e]; show (t.board 0, true) = _; rw [h.root]
    · rw [if_pos e, e]; show (t.board 24, true) = _; rw [h.era]
  · unfold St.touch
    rw [if_neg (by omega), if_pos hk]
    refine ⟨?_, ⟨h.n, h.m, ?_, ?_, h.made, h.fault, h.free⟩, rfl⟩
    · unfold envRep; rw [if_neg (by omega)]
    · show (if 0 = a.f.toNat then _ else t.board 0) = zw
      rw [if_neg (by omega)]; exact h.root
    · show (if 24 = a.f.toNat then _ else t.board 24) = nw 1
      rw [if_neg (by omega)]; exact h.era
/-- A step of a worker that runs: what it needs, and that it runs on. -/
theorem run_step {f : Nat} {x : Rt × Wr} (h : runB (f + 1) x = true) {t : St} (ht : Em t) :
    WOk 199 x ∧ ((wto 199 x).1.st.busy = true → t.can (wto 199 x).1.st.acc = true ∧ GoOk (wto 199 x).1 (t.step (wto 199 x).1.st.acc).2 ∧ (t.step (wto 199 x).1.st.acc).2 = envRep (wto 199 x).1.st.acc ∧ Em (t.step (wto 199 x).1.st.acc).1 ∧ (t.step (wto 199 x).1.st.acc).1.steps = t.steps + 1 ∧ runB f (trajStep x) = true) ∧
      ((wto 199 x).1.st.busy = false → doneB (wto 199 x) = true) := by
  unfold runB at h
  rw [Bool.and_eq_true] at h
  obtain ⟨h1, h2⟩ := h
  refine ⟨wOkB_ok h1, fun hb => ?_, fun hb => ?_⟩
  · rw [if_pos hb] at h2
    simp only [Bool.and_eq_true] at h2
    obtain ⟨⟨h3, h4⟩, h5⟩ := h2
    obtain ⟨e1, e2, e3, e4⟩ := em_step ht h3
    exact ⟨e1, by rw [e2]; exact goB_ok h4, e2, e3, e4, h5⟩
  · rw [if_neg (by rw [hb]; decide)] at h2
    exact h2
end Go.Proofs.YtihjklimcchkhaaGreatDoor

namespace Go.Proofs.YtihjklimcchkhaaGreatDoor
open Go.RowKit Go.Extern.Stop Go.Stop Go.Extern Go.Sort
/-- A crew on an empty stack: each worker runs, within so many steps. -/
def RunOn (t : St) (n : Nat) (x : Nat → Rt × Wr) : Prop := Em t ∧ ∀ i, i < n → ∃ f, f ≤ 99 ∧ runB (f + 1) (x i) = true
theorem done_idle {y : Rt × Wr} (h : doneB y = true) : idleB y = true := by
  unfold doneB at h
  unfold idleB
  simp only [Bool.and_eq_true] at h ⊢
  exact h.1
theorem idle_done {y : Rt × Wr} {f : Nat} (h : runB (f + 1) y = true) (hi : idleB y = true) : doneB y = true := by
  unfold idleB at hi
  simp only [Bool.and_eq_true, Bool.not_eq_true', decide_eq_true_eq] at hi
  obtain ⟨⟨⟨h1, h2⟩, h3⟩, h4⟩ := hi
  have ho : wover y = true := by unfold wover; rw [h2, h3]; simp [h4]
  have ht : wto 199 y = y := wto_over ho
  unfold runB at h
  rw [ht, h1, Bool.and_eq_true] at h
  simpa using h.2
theorem runOn_upd {t : St} {n : Nat} {x : Nat → Rt × Wr} {i f : Nat} (h : RunOn t n x) (hi : i < n) (hf : runB (f + 1) (x i) = true) (hf9 : f ≤ 99) :
    WOk 199 (x i) ∧ ((wto 199 (x i)).1.st.busy = true → t.can (wto 199 (x i)).1.st.acc = true ∧ GoOk (wto 199 (x i)).1 (t.step (wto 199 (x i)).1.st.acc).2) ∧ RunOn (wStepT t (x i)) n (upd x i (wStepX t (x i))) ∧ (wStepT t (x i)).steps ≤ t.steps + 1 ∧
    ((wto 199 (x i)).1.st.busy = true → ∃ f', f = f' + 1 ∧ runB (f' + 1) (wStepX t (x i)) = true) ∧ ((wto 199 (x i)).1.st.busy = false → doneB (wStepX t (x i)) = true) := by
  obtain ⟨k1, k2, k3⟩ := run_step hf h.1
  have hx : ∀ (hb : (wto 199 (x i)).1.st.busy = true), wStepX t (x i) = trajStep (x i) := fun hb => by
    unfold wStepX trajStep
    rw [if_pos hb, if_pos hb, (k2 hb).2.2.1]
  have hd : ∀ (hb : (wto 199 (x i)).1.st.busy = false), wStepX t (x i) = wto 199 (x i) := fun hb => by
    unfold wStepX
    rw [hb]; rfl
  have hrun : ∀ y, (∃ f, f ≤ 99 ∧ runB (f + 1) y = true) → ∀ j, j < n → ∃ f, f ≤ 99 ∧ runB (f + 1) (upd x i y j) = true := fun y hy j hj => by
    by_cases e : j = i
    · subst e; rw [upd_self]; exact hy
    · rw [upd_ne _ _ e]; exact h.2 j hj
  cases hb : (wto 199 (x i)).1.st.busy with
  | true =>
    obtain ⟨a1, a2, a3, a4, a5, a6⟩ := k2 hb
    have hf' : ∃ f', f = f' + 1 ∧ runB (f' + 1) (wStepX t (x i)) = true := by
      rw [hx hb]
      cases f with
      | zero => unfold runB at a6; cases a6
      | succ f' => exact ⟨f', rfl, a6⟩
    refine ⟨k1, fun _ => ⟨a1, a2⟩, ⟨?_, hrun _ ?_⟩, ?_, fun _ => hf', fun e => by cases e⟩
    · unfold wStepT; rw [if_pos hb]; exact a4
    · obtain ⟨f', e1, e2⟩ := hf'
      exact ⟨f', by omega, e2⟩
    · unfold wStepT; rw [if_pos hb, a5]; exact Nat.le_refl _
  | false =>
    have hdn := k3 hb
    refine ⟨k1, (fun e => by cases e), ⟨?_, hrun _ ⟨0, by omega, ?_⟩⟩, ?_, (fun e => by cases e), fun _ => by rw [hd hb]; exact hdn⟩
    · unfold wStepT; rw [hb]; exact h.1
    · rw [hd hb]; exact (run_done hdn 0).2.2
    · unfold wStepT; rw [hb]; exact Nat.le_succ _
def RsRel (w : World) (E : Flt → Addr) (B p bs bb n lb : Nat) (g : Nat → Nat) (S : Nat) (vk : Value) (wr : World) : Prop :=
  ∃ (k : Nat) (t : St) (x : Nat → Rt × Wr), k ≤ n ∧ vk = .int .i64 (k : Int) ∧ t.steps ≤ S + k * 101 ∧ RunOn t n x ∧ (∀ j, j < k → doneB (x j) = true) ∧ CrewOn wr w E B p bs bb t n g lb x
def RiRel (w : World) (E : Flt → Addr) (B p bs bb n lb : Nat) (g : Nat → Nat) (S k : Nat) (vi : Value) (wr : World) : Prop :=
  ∃ (i f : Nat) (t : St) (x : Nat → Rt × Wr), vi = .int .i64 (i : Int) ∧ (doneB (x k) = true ∨ f + i ≤ 99) ∧ i ≤ 100 ∧ f ≤ 99 ∧ t.steps ≤ S + k * 101 + i ∧ RunOn t n x ∧ runB (f + 1) (x k) = true ∧ (∀ j, j < k → doneB (x j) = true) ∧ CrewOn wr w E B p bs bb t n g lb x
/-- What rest leaves. -/
def RestPost (w : World) (E : Flt → Addr) (B p bs bb n lb : Nat) (g : Nat → Nat) (e : Ending) (w' : World) : Prop :=
  e = .returned (.bool true) ∧ ∃ (t : St) (x : Nat → Rt × Wr), Em t ∧ (∀ j, j < n → doneB (x j) = true) ∧ Hid (CrewOn w' w E B p bs bb t n g lb x)
section
variable {W w : World} {E : Flt → Addr} {B p bs bb : Nat} {t : St} {n lb cap : Nat} {g : Nat → Nat} {x : Nat → Rt × Wr}
set_option maxRecDepth 100000 in
set_option maxHeartbeats 4000000 in
theorem rest_is (h : CrewOn W w E B p bs bb t n g lb x) (hr : RunOn t n x) (hn : n ≤ 6) (hc : n ≤ cap) (hs : t.steps ≤ 800000) :
    Calls Tryz.prog 34 #[.pointer (some ⟨p, 0, none⟩), .slice (some ⟨lb, 0, none⟩) n cap] W (RestPost w E B p bs bb n lb g) := by
  have HC := Lib.hid h
  have HR := Lib.hid hr
  clear h hr
  go_enter Tryz.func34, Tryz.ntmps34
  go_wp2
  go_loopw [5] (RsRel w E B p bs bb n lb g t.steps) (fun i _ => 7 - (intOf i).toNat)
  case atStart => exact ⟨0, t, x, by omega, rfl, by omega, HR.out, fun j hj => absurd hj (by omega), HC.out⟩
  case round =>
    obtain ⟨k, t1, x1, hk, rfl, hst, hrun, hdn, hcr⟩ := hrel
    obtain ⟨wo, rfl⟩ : ∃ wo : World, wo = wr := ⟨_, rfl⟩
    have HC1 := Lib.hid hcr
    have HR1 := Lib.hid hrun
    have HD1 := Lib.hid hdn
    have HS1 := Lib.hid hst
    clear hcr hrun hdn hst HC HR
    by_cases hlt : k < n
    · have j1 : (k : Int) < n := by omega
      obtain ⟨f0, hf0, hrf0⟩ := HR1.out.2 k hlt
      go_wp2
      go_loopw [6] (RiRel w E B p bs bb n lb g t.steps k) (fun i _ => 101 - (intOf i).toNat)
      case atStart => exact ⟨0, f0, t1, x1, rfl, .inr (by omega), by omega, hf0, by have := HS1.out; omega, HR1.out, hrf0, HD1.out, HC1.out⟩
      case round =>
        obtain ⟨i, f, t2, x2, rfl, hfi, hi, hf9, hst2, hrun2, hrf2, hdn2, hcr2⟩ := hrel
        obtain ⟨wi, rfl⟩ : ∃ wi : World, wi = wr := ⟨_, rfl⟩
        have HC2 := Lib.hid hcr2
        have HR2 := Lib.hid hrun2
        have HD2 := Lib.hid hdn2
        have HS2 := Lib.hid hst2
        have HF2 := Lib.hid hrf2
        have HFI := Lib.hid hfi
        clear hcr2 hrun2 hdn2 hst2 hrf2 hfi
        obtain ⟨cr, zr⟩ := HC2.out.row hlt
        have j2 : (i : Int) < 40000 := by omega
        cases hid : idleB (x2 k) with
        | true =>
          have hdk := idle_done HF2.out hid
          have HI := Lib.hid (HC2.out.idle hlt hid)
          have HDK := Lib.hid hdk
          clear hdk
          go_wp2_with fail
          refine HI.out.mono ?_
          rintro e w3 ⟨rfl, h3⟩
          clear HI HC2 cr zr
          obtain ⟨cr, zr⟩ := h3.out.row hlt
          have HI := Lib.hid (h3.out.idle hlt hid)
          go_wp2_with fail
          refine HI.out.mono ?_
          rintro e w4 ⟨rfl, h4⟩
          have HF : Hid (RsRel w E B p bs bb n lb g t.steps (.int .i64 ((k : Int) + 1)) w4) := Lib.hid ⟨k + 1, t2, x2, by omega, rfl, by have := HS2.out; omega, HR2.out, fun j hj => by
            by_cases e : j = k
            · subst e; exact HDK.out
            · exact HD2.out j (by omega), h4.out⟩
          have zk : wrap64 ((k : Int) + 1) = ((k + 1 : Nat) : Int) := by rw [IntWalk.wrap64_in _ ⟨by omega, by omega⟩]; rfl
          clear HI cr zr h3 h4 HDK HR2 HD2 HS2 HF2 HFI HR1 HD1 HS1 HC1
          go_wp2
          go_roundw
          case rel => exact HF.out
          case measure => simp [intOf]; omega
        | false =>
          have hnd : ¬ doneB (x2 k) = true := fun e => by rw [done_idle e] at hid; cases hid
          have hfi2 : f + i ≤ 99 := HFI.out.resolve_left hnd
          have HI := Lib.hid (HC2.out.idle hlt hid)
          obtain ⟨u1, u2, u3, u4, u5, u6⟩ := runOn_upd HR2.out hlt HF2.out hf9
          obtain ⟨q, hq⟩ : ∃ q, (wto 199 (x2 k)).1.st.busy = q := ⟨_, rfl⟩
          have HU3 := Lib.hid u3
          have HU4 := Lib.hid u4
          have HU5 := Lib.hid u5
          have HU6 := Lib.hid u6
          have HW1 := Lib.hid u1
          have HW2 := Lib.hid u2
          have HQ := Lib.hid hq
          clear u1 u2 u3 u4 u5 u6 hq
          go_wp2_with fail
          refine HI.out.mono ?_
          rintro e w3 ⟨rfl, h3⟩
          have HST := Lib.hid (h3.out.step hlt HW1.out (by have := HS2.out; omega) HW2.out HQ.out)
          clear HI HC2 cr zr
          obtain ⟨cr, zr⟩ := h3.out.row hlt
          go_wp2_with fail
          refine HST.out.mono ?_
          rintro e w4 ⟨rfl, h4⟩
          clear HST h3 cr zr
          have hk11 : i + 1 ≤ 100 := by omega
          have hdj : ∀ j, j < k → doneB (upd x2 k (wStepX t2 (x2 k)) j) = true := fun j hj => by rw [upd_ne _ _ (by omega)]; exact HD2.out j hj
          have hsj : (wStepT t2 (x2 k)).steps ≤ t.steps + k * 101 + (i + 1) := by have := HS2.out; have := HU4.out; omega
          have zk : wrap64 ((i : Int) + 1) = ((i + 1 : Nat) : Int) := by rw [IntWalk.wrap64_in _ ⟨by omega, by omega⟩]; rfl
          cases q with
          | true =>
            obtain ⟨f', hff, hrn⟩ := HU5.out HQ.out
            have HF : Hid (RiRel w E B p bs bb n lb g t.steps k (.int .i64 ((i : Int) + 1)) w4) := Lib.hid ⟨i + 1, f', _, _, rfl, .inr (by omega), hk11, by omega, hsj, HU3.out, by rw [upd_self]; exact hrn, hdj, h4.out⟩
            clear h4 hdj hsj HU3 HU4 HU5 HU6 HW1 HW2 HQ HR2 HD2 HS2 HF2 HFI HR1 HD1 HS1 HC1 hrn
            go_wp2
            go_roundw
            case rel => exact HF.out
            case measure => simp [intOf]; omega
          | false =>
            have hdk := HU6.out HQ.out
            have HID := Lib.hid (h4.out.idle hlt (q := true) (by rw [upd_self]; exact done_idle hdk))
            have HRN := Lib.hid ((run_done hdk 0).2.2)
            have HDK := Lib.hid hdk
            obtain ⟨cr, zr⟩ := h4.out.row hlt
            clear hdk
            go_wp2_with fail
            refine HID.out.mono ?_
            rintro e w5 ⟨rfl, h5⟩
            have HF : Hid (RiRel w E B p bs bb n lb g t.steps k (.int .i64 ((i : Int) + 1)) w5) := Lib.hid ⟨i + 1, 0, _, _, rfl, .inl (by rw [upd_self]; exact HDK.out), hk11, by omega, hsj, HU3.out, by rw [upd_self]; exact HRN.out, hdj, h5.out⟩
            clear h4 h5 hdj hsj HU3 HU4 HU5 HU6 HW1 HW2 HQ HR2 HD2 HS2 HF2 HFI HR1 HD1 HS1 HC1 HID HRN HDK cr zr
            go_wp2
            go_roundw
            case rel => exact HF.out
            case measure => simp [intOf]; omega
    · obtain rfl : n = k := by omega
      have j1 : ¬ ((n : Int) < n) := by omega
      go_wp2
      go_ret
      exact ⟨rfl, t1, x1, HR1.out.1, HD1.out, HC1⟩
end
end Go.Proofs.YtihjklimcchkhaaGreatDoor
