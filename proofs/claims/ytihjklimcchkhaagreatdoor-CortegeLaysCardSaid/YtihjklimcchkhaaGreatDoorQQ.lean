/- CortegeLays as plain data: a worker alone on a queue that was laid on one slot, looked at by evaluation. A template (fill.py). -/
/- rest: a worker alone comes to its end on a queue. Of cortege's (ported from XPs). A template (fill.py). -/
/- The walk of CortegeLays. A template (fill.py). -/
import Derived.Test.YtihjklimcchkhaaGreatDoorQR
import Derived.Test.YtihjklimcchkhaaGreatDoorWA
import Derived.LoopTactic
import Derived.Test.YtihjklimcchkhaaGreatDoorCM
import Derived.Test.YtihjklimcchkhaaGreatDoorFB
namespace Go.Proofs.YtihjklimcchkhaaGreatDoor.Cq
instance (o : Po) : Decidable o.can := by unfold Co.Po.can Co.Po.Can; infer_instance
instance (j : Jb) : Decidable (JOk j) := by unfold JOk Co.JOk; infer_instance
/-- As goB, and what touches, and asks for a slot. -/
def goC (m : Rt) (x : Wd × Bool) : Bool := goB m x ||
  (decide (m.me < 6) && decide (1 ≤ m.thr) && decide (m.thr ≤ 6) && decide (m.notes.length ≤ 200) && decide (m.freed ≤ 100000) &&
  ((decide (m.eng = 2) && decide (m.span = zs) && (((decide (m.st.call.kind = 3) || decide (m.st.call.kind = 4) || decide (m.st.call.kind = 5)) && (decide (m.st.done = 0) || decide (m.st.done = 1))) || (decide (m.st.call.kind = 8) && (decide (m.st.done = 0) || decide (m.st.done = 1))))) ||
   ((decide (m.eng = 1) || decide (m.eng = 3) || decide (m.eng = 4) || decide (m.eng = 5)) && (m.saysSpan || decide (m.span = zs)) &&
     (((decide (m.st.call.kind = 3) || decide (m.st.call.kind = 4) || decide (m.st.call.kind = 5)) && (decide (m.st.done = 0) || decide (m.st.done = 1))) || (decide (m.st.call.kind = 8) && (decide (m.st.done = 0) || decide (m.st.done = 4) || decide (m.st.done = 1)))))))
theorem goC_ok {m : Rt} {x : Wd × Bool} (h : goC m x = true) : GoOk m x := by
  unfold goC at h
  rw [Bool.or_eq_true] at h
  rcases h with h | h
  · exact goB_ok h
  simp only [Bool.and_eq_true, Bool.or_eq_true, decide_eq_true_eq] at h
  obtain ⟨⟨⟨⟨⟨h1, h2⟩, h3⟩, h4⟩, h5⟩, h | h⟩ := h
  · obtain ⟨⟨he, hs⟩, h⟩ := h
    refine HazOk.go ⟨he, h1, ⟨h2, h3⟩, hs, h4, h5, ?_⟩
    rcases h with ⟨hk, hd⟩ | ⟨hk, hd⟩
    · exact .inr (.inr (.inl ⟨by omega, hd⟩))
    · exact .inr (.inr (.inr (.inr (.inl ⟨hk, hd⟩))))
  · obtain ⟨⟨he, hs⟩, h⟩ := h
    refine ElseOk.go ⟨by omega, h1, ⟨h2, h3⟩, fun k => hs.elim (fun e => by rw [k] at e; cases e) id, h4, h5, ?_⟩
    rcases h with ⟨hk, hd⟩ | ⟨hk, hd⟩
    · exact .inr (.inr (.inl ⟨by omega, hd⟩))
    · exact .inr (.inr (.inr (.inr (.inl ⟨hk, by omega⟩))))
def wNextB (x : Rt × Wr) : Bool :=
  match x.2.j with
  | none => if x.2.inn then goC (x.1.at_ (cl 2)) (zw, false) else
    match x.2.ops[x.2.said.length]? with
    | none => false
    | some o => decide o.can && goC (x.1.at_ (cl 1)) (zw, false)
  | some j => decide (x.2.said.length ≤ 1000) && decide (JOk j) && (decide ((j.go x.1.st.last).call.kind = 12) || (decide ((j.go x.1.st.last).code = 0) && decide ((j.go x.1.st.last).aval = 0) && decide (j.go x.1.st.last).call.fine && goC (x.1.at_ (j.go x.1.st.last).call) (zw, false)))
theorem wNextB_ok {x : Rt × Wr} (h : wNextB x = true) : WNext x := by
  unfold wNextB at h
  unfold WNext
  cases hj : x.2.j with
  | none =>
    rw [hj] at h
    simp only at h ⊢
    cases hi : x.2.inn with
    | true =>
      rw [hi] at h
      exact goC_ok h
    | false =>
      rw [hi] at h
      simp only [Bool.false_eq_true, if_false] at h ⊢
      cases ho : x.2.ops[x.2.said.length]? with
      | none => rw [ho] at h; cases h
      | some o =>
        rw [ho] at h
        simp only [Bool.and_eq_true, decide_eq_true_eq] at h
        exact ⟨h.1, goC_ok h.2⟩
  | some j =>
    rw [hj] at h
    simp only [Bool.and_eq_true, Bool.or_eq_true, decide_eq_true_eq] at h ⊢
    obtain ⟨⟨h1, h2⟩, h3⟩ := h
    refine ⟨h1, h2, fun hn => ?_⟩
    rcases h3 with h3 | ⟨⟨⟨a, b⟩, c⟩, d⟩
    · exact absurd h3 hn
    · exact ⟨a, b, c, goC_ok d⟩
def wOkB : Nat → Rt × Wr → Bool
  | 0, x => wover x
  | n + 1, x => wover x || (wNextB x && wOkB n (wbeg x))
theorem wOkB_ok : ∀ {n : Nat} {x : Rt × Wr}, wOkB n x = true → WOk n x
  | 0, _, h => h
  | n + 1, x, h => by
    unfold wOkB at h
    simp only [Bool.or_eq_true, Bool.and_eq_true] at h
    exact h.imp id fun ⟨h1, h2⟩ => ⟨wNextB_ok h1, wOkB_ok h2⟩

def doneC (x : Rt × Wr) : Bool := !x.1.st.busy && x.2.j.isNone && !x.2.inn && decide (x.2.ops.length ≤ x.2.said.length) && decide (x.2.said = [(2, 0), (4, 0), (2, 0)])
/-- It comes to its end within so many steps, each of them good. -/
def runC : Nat → St → Rt × Wr → Bool
  | 0, _, _ => false
  | f + 1, t, x => wOkB 199 x && (if (wto 199 x).1.st.busy then t.can (wto 199 x).1.st.acc && goC (wto 199 x).1 (t.step (wto 199 x).1.st.acc).2 && decide ((t.step (wto 199 x).1.st.acc).1.steps ≤ t.steps + 1) && runC f (wStepT t x) (wStepX t x) else doneC (wto 199 x))
def ops8 : List Po := [⟨5, 0, 0, 0⟩, ⟨4, 0, 3, 0⟩, ⟨5, 0, 0, 0⟩]
def d1 : Wd := ⟨1, 1, 0, 0, false⟩
def tLaid : St := layN (ydSt 1) d1 2
def cStart (e : Int) : Rt × Wr := (Rt.new e 0 1 1, ⟨ops8, [], none, false⟩)
set_option maxRecDepth 100000 in
theorem run_all8 : ((List.range 5).all fun e => runC 100 tLaid (cStart ((e : Int) + 1))) = true := by decide +kernel
theorem run_start8 {e : Nat} (he : e < 5) : runC 100 tLaid (cStart ((e : Int) + 1)) = true := by
  have h := run_all8
  rw [List.all_eq_true] at h
  exact h e (List.mem_range.2 he)
theorem run_done8 {x : Rt × Wr} (h : doneC x = true) (f : Nat) (t : St) : wover x = true ∧ wto 199 x = x ∧ runC (f + 1) t x = true := by
  have h' := h
  unfold doneC at h'
  simp only [Bool.and_eq_true, Bool.not_eq_true', decide_eq_true_eq] at h'
  obtain ⟨⟨⟨⟨h1, h2⟩, h3⟩, h4⟩, h5⟩ := h'
  have ho : wover x = true := by unfold wover; rw [h2, h3]; simp [h4]
  have ht : wto 199 x = x := wto_over ho
  refine ⟨ho, ht, ?_⟩
  unfold runC
  rw [ht, h1]
  have hw : wOkB 199 x = true := by show (wover x || _) = true; rw [ho]; rfl
  rw [hw]
  simpa using h
end Go.Proofs.YtihjklimcchkhaaGreatDoor.Cq

namespace Go.Proofs.YtihjklimcchkhaaGreatDoor.Cq
open Go.RowKit Go.Extern.Stop Go.Stop Go.Extern Go.Sort
/-- A crew of one: it runs, within so many steps. -/
def RunOn (t : St) (n : Nat) (x : Nat → Rt × Wr) : Prop := n = 1 ∧ ∃ f, f ≤ 99 ∧ runC (f + 1) t (x 0) = true
theorem done_idle {y : Rt × Wr} (h : doneC y = true) : idleB y = true := by
  unfold doneC at h
  unfold idleB
  simp only [Bool.and_eq_true] at h ⊢
  exact h.1
theorem idle_done {t : St} {y : Rt × Wr} {f : Nat} (h : runC (f + 1) t y = true) (hi : idleB y = true) : doneC y = true := by
  unfold idleB at hi
  simp only [Bool.and_eq_true, Bool.not_eq_true', decide_eq_true_eq] at hi
  obtain ⟨⟨⟨h1, h2⟩, h3⟩, h4⟩ := hi
  have ho : wover y = true := by unfold wover; rw [h2, h3]; simp [h4]
  have ht : wto 199 y = y := wto_over ho
  unfold runC at h
  rw [ht, h1, Bool.and_eq_true] at h
  simpa using h.2
theorem runOn_upd {t : St} {n : Nat} {x : Nat → Rt × Wr} {i f : Nat} (h : RunOn t n x) (hi : i < n) (hf : runC (f + 1) t (x i) = true) (hf9 : f ≤ 99) :
    WOk 199 (x i) ∧ ((wto 199 (x i)).1.st.busy = true → t.can (wto 199 (x i)).1.st.acc = true ∧ GoOk (wto 199 (x i)).1 (t.step (wto 199 (x i)).1.st.acc).2) ∧ RunOn (wStepT t (x i)) n (upd x i (wStepX t (x i))) ∧ (wStepT t (x i)).steps ≤ t.steps + 1 ∧
    ((wto 199 (x i)).1.st.busy = true → ∃ f', f = f' + 1 ∧ runC (f' + 1) (wStepT t (x i)) (wStepX t (x i)) = true) ∧ ((wto 199 (x i)).1.st.busy = false → doneC (wStepX t (x i)) = true) := by
  obtain ⟨rfl, _⟩ := h
  obtain rfl : i = 0 := by omega
  have hf0 := hf
  unfold runC at hf
  rw [Bool.and_eq_true] at hf
  obtain ⟨h1, h2⟩ := hf
  refine ⟨wOkB_ok h1, ?_⟩
  cases hb : (wto 199 (x 0)).1.st.busy with
  | true =>
    rw [if_pos hb] at h2
    simp only [Bool.and_eq_true, decide_eq_true_eq] at h2
    obtain ⟨⟨⟨a1, a2⟩, a3⟩, a4⟩ := h2
    have hf' : ∃ f', f = f' + 1 ∧ runC (f' + 1) (wStepT t (x 0)) (wStepX t (x 0)) = true := by
      cases f with
      | zero => unfold runC at a4; cases a4
      | succ f' => exact ⟨f', rfl, a4⟩
    refine ⟨fun _ => ⟨a1, goC_ok a2⟩, ⟨rfl, ?_⟩, ?_, fun _ => hf', fun e => by cases e⟩
    · obtain ⟨f', e1, e2⟩ := hf'
      exact ⟨f', by omega, by rw [upd_self]; exact e2⟩
    · unfold wStepT; rw [if_pos hb]; exact a3
  | false =>
    rw [if_neg (by rw [hb]; decide)] at h2
    have hd : wStepX t (x 0) = wto 199 (x 0) := by unfold wStepX; rw [hb]; rfl
    have ht : wStepT t (x 0) = t := by unfold wStepT; rw [hb]; rfl
    refine ⟨(fun e => by cases e), ⟨rfl, 0, by omega, ?_⟩, ?_, (fun e => by cases e), fun _ => by rw [hd]; exact h2⟩
    · rw [upd_self, hd]; exact (run_done8 h2 0 _).2.2
    · rw [ht]; exact Nat.le_succ _
def RsRel (w : World) (E : Flt → Addr) (B p bs bb n lb : Nat) (g : Nat → Nat) (S : Nat) (vk : Value) (wr : World) : Prop :=
  ∃ (k : Nat) (t : St) (x : Nat → Rt × Wr), k ≤ n ∧ vk = .int .i64 (k : Int) ∧ t.steps ≤ S + k * 101 ∧ RunOn t n x ∧ (∀ j, j < k → doneC (x j) = true) ∧ CrewOn wr w E B p bs bb t n g lb x
def RiRel (w : World) (E : Flt → Addr) (B p bs bb n lb : Nat) (g : Nat → Nat) (S k : Nat) (vi : Value) (wr : World) : Prop :=
  ∃ (i f : Nat) (t : St) (x : Nat → Rt × Wr), vi = .int .i64 (i : Int) ∧ (doneC (x k) = true ∨ f + i ≤ 99) ∧ i ≤ 100 ∧ f ≤ 99 ∧ t.steps ≤ S + k * 101 + i ∧ RunOn t n x ∧ runC (f + 1) t (x k) = true ∧ (∀ j, j < k → doneC (x j) = true) ∧ CrewOn wr w E B p bs bb t n g lb x
/-- What rest leaves. -/
def RestPost (w : World) (E : Flt → Addr) (B p bs bb n lb : Nat) (g : Nat → Nat) (e : Ending) (w' : World) : Prop :=
  e = .returned (.bool true) ∧ ∃ (t : St) (x : Nat → Rt × Wr), (∀ j, j < n → doneC (x j) = true) ∧ Hid (CrewOn w' w E B p bs bb t n g lb x)
section
variable {W w : World} {E : Flt → Addr} {B p bs bb : Nat} {t : St} {n lb cap : Nat} {g : Nat → Nat} {x : Nat → Rt × Wr}
set_option maxRecDepth 100000 in
set_option maxHeartbeats 4000000 in
theorem rest_is (h : CrewOn W w E B p bs bb t n g lb x) (hr : RunOn t n x) (hn : n ≤ 6) (hc : n ≤ cap) (hs : t.steps ≤ 800000) :
    Calls Tryz.prog 43 #[.pointer (some ⟨p, 0, none⟩), .slice (some ⟨lb, 0, none⟩) n cap] W (RestPost w E B p bs bb n lb g) := by
  have HC := Lib.hid h
  have HR := Lib.hid hr
  clear h hr
  go_enter Tryz.func43, Tryz.ntmps43
  go_wp2
  go_loopw [5] (RsRel w E B p bs bb n lb g t.steps) (fun i _ => 7 - (intOf i).toNat)
  case atStart => exact ⟨0, t, x, by omega, rfl, by omega, HR.out, fun j hj => absurd hj (by omega), HC.out⟩
  case round =>
    obtain ⟨k, t1, x1, hk, rfl, hst, hrun, hdn, hcr⟩ := hrel
    obtain ⟨wo, rfl⟩ : ∃ wo : World, wo = wr := ⟨_, rfl⟩
    have HC1 := Lib.hid hcr
    have HR1 := Lib.hid hrun
    have HD1 := Lib.hid hdn
    have HS1 := Lib.hid hst
    clear hcr hrun hdn hst HC HR
    by_cases hlt : k < n
    · have j1 : (k : Int) < n := by omega
      obtain ⟨f0, hf0, hrf0⟩ := HR1.out.2
      have hk0 : k = 0 := by have := HR1.out.1; omega
      have HRF := Lib.hid (show runC (f0 + 1) t1 (x1 k) = true by rw [hk0]; exact hrf0)
      clear hrf0 hk0
      go_wp2
      go_loopw [6] (RiRel w E B p bs bb n lb g t.steps k) (fun i _ => 101 - (intOf i).toNat)
      case atStart => exact ⟨0, f0, t1, x1, rfl, .inr (by omega), by omega, hf0, by have := HS1.out; omega, HR1.out, HRF.out, HD1.out, HC1.out⟩
      case round =>
        obtain ⟨i, f, t2, x2, rfl, hfi, hi, hf9, hst2, hrun2, hrf2, hdn2, hcr2⟩ := hrel
        obtain ⟨wi, rfl⟩ : ∃ wi : World, wi = wr := ⟨_, rfl⟩
        have HC2 := Lib.hid hcr2
        have HR2 := Lib.hid hrun2
        have HD2 := Lib.hid hdn2
        have HS2 := Lib.hid hst2
        have HF2 := Lib.hid hrf2
        have HFI := Lib.hid hfi
        clear hcr2 hrun2 hdn2 hst2 hrf2 hfi
        obtain ⟨cr, zr⟩ := HC2.out.row hlt
        have j2 : (i : Int) < 40000 := by omega
        cases hid : idleB (x2 k) with
        | true =>
          have hdk := idle_done HF2.out hid
          have HI := Lib.hid (HC2.out.idle hlt hid)
          have HDK := Lib.hid hdk
          clear hdk
          go_wp2_with fail
          refine HI.out.mono ?_
          rintro e w3 ⟨rfl, h3⟩
          clear HI HC2 cr zr
          obtain ⟨cr, zr⟩ := h3.out.row hlt
          have HI := Lib.hid (h3.out.idle hlt hid)
          go_wp2_with fail
          refine HI.out.mono ?_
          rintro e w4 ⟨rfl, h4⟩
          have HF : Hid (RsRel w E B p bs bb n lb g t.steps (.int .i64 ((k : Int) + 1)) w4) := Lib.hid ⟨k + 1, t2, x2, by omega, rfl, by have := HS2.out; omega, HR2.out, fun j hj => by
            by_cases e : j = k
            · subst e; exact HDK.out
            · exact HD2.out j (by omega), h4.out⟩
          have zk : wrap64 ((k : Int) + 1) = ((k + 1 : Nat) : Int) := by rw [IntWalk.wrap64_in _ ⟨by omega, by omega⟩]; rfl
          clear HI cr zr h3 h4 HDK HR2 HD2 HS2 HF2 HFI HR1 HD1 HS1 HC1
          go_wp2
          go_roundw
          case rel => exact HF.out
          case measure => simp [intOf]; omega
        | false =>
          have hnd : ¬ doneC (x2 k) = true := fun e => by rw [done_idle e] at hid; cases hid
          have hfi2 : f + i ≤ 99 := HFI.out.resolve_left hnd
          have HI := Lib.hid (HC2.out.idle hlt hid)
          obtain ⟨u1, u2, u3, u4, u5, u6⟩ := runOn_upd HR2.out hlt HF2.out hf9
          obtain ⟨q, hq⟩ : ∃ q, (wto 199 (x2 k)).1.st.busy = q := ⟨_, rfl⟩
          have HU3 := Lib.hid u3
          have HU4 := Lib.hid u4
          have HU5 := Lib.hid u5
          have HU6 := Lib.hid u6
          have HW1 := Lib.hid u1
          have HW2 := Lib.hid u2
          have HQ := Lib.hid hq
          clear u1 u2 u3 u4 u5 u6 hq
          go_wp2_with fail
          refine HI.out.mono ?_
          rintro e w3 ⟨rfl, h3⟩
          have HST := Lib.hid (h3.out.step hlt HW1.out (by have := HS2.out; omega) HW2.out HQ.out)
          clear HI HC2 cr zr
          obtain ⟨cr, zr⟩ := h3.out.row hlt
          go_wp2_with fail
          refine HST.out.mono ?_
          rintro e w4 ⟨rfl, h4⟩
          clear HST h3 cr zr
          have hk11 : i + 1 ≤ 100 := by omega
          have hdj : ∀ j, j < k → doneC (upd x2 k (wStepX t2 (x2 k)) j) = true := fun j hj => by rw [upd_ne _ _ (by omega)]; exact HD2.out j hj
          have hsj : (wStepT t2 (x2 k)).steps ≤ t.steps + k * 101 + (i + 1) := by have := HS2.out; have := HU4.out; omega
          have zk : wrap64 ((i : Int) + 1) = ((i + 1 : Nat) : Int) := by rw [IntWalk.wrap64_in _ ⟨by omega, by omega⟩]; rfl
          cases q with
          | true =>
            obtain ⟨f', hff, hrn⟩ := HU5.out HQ.out
            have HF : Hid (RiRel w E B p bs bb n lb g t.steps k (.int .i64 ((i : Int) + 1)) w4) := Lib.hid ⟨i + 1, f', _, _, rfl, .inr (by omega), hk11, by omega, hsj, HU3.out, by rw [upd_self]; exact hrn, hdj, h4.out⟩
            clear h4 hdj hsj HU3 HU4 HU5 HU6 HW1 HW2 HQ HR2 HD2 HS2 HF2 HFI HR1 HD1 HS1 HC1 hrn
            go_wp2
            go_roundw
            case rel => exact HF.out
            case measure => simp [intOf]; omega
          | false =>
            have hdk := HU6.out HQ.out
            have HID := Lib.hid (h4.out.idle hlt (q := true) (by rw [upd_self]; exact done_idle hdk))
            have HRN := Lib.hid ((run_done8 hdk 0 (wStepT t2 (x2 k))).2.2)
            have HDK := Lib.hid hdk
            obtain ⟨cr, zr⟩ := h4.out.row hlt
            clear hdk
            go_wp2_with fail
            refine HID.out.mono ?_
            rintro e w5 ⟨rfl, h5⟩
            have HF : Hid (RiRel w E B p bs bb n lb g t.steps k (.int .i64 ((i : Int) + 1)) w5) := Lib.hid ⟨i + 1, 0, _, _, rfl, .inl (by rw [upd_self]; exact HDK.out), hk11, by omega, hsj, HU3.out, by rw [upd_self]; exact HRN.out, hdj, h5.out⟩
            clear h4 h5 hdj hsj HU3 HU4 HU5 HU6 HW1 HW2 HQ HR2 HD2 HS2 HF2 HFI HR1 HD1 HS1 HC1 HID HRN HDK cr zr
            go_wp2
            go_roundw
            case rel => exact HF.out
            case measure => simp [intOf]; omega
    · obtain rfl : n = k := by omega
      have j1 : ¬ ((n : Int) < n) := by omega
      go_wp2
      go_ret
      exact ⟨rfl, t1, x1, HD1.out, HC1⟩
end
end Go.Proofs.YtihjklimcchkhaaGreatDoor.Cq

namespace Go.Proofs.YtihjklimcchkhaaGreatDoor.Cq
open Go.RowKit Go.Extern.Stop Go.Stop Go.Extern Go.Sort
theorem u64_mod_ (x : Int) (m : Nat) (hm : 0 < m) : ∃ n : Nat, n < m ∧ (IntKind.u64.wrap x).tmod (m : Int) = n := by
  have h0 : 0 ≤ IntKind.u64.wrap x := by rw [IntKind.wrap_u64]; omega
  rw [Int.tmod_eq_emod_of_nonneg h0]
  have h1 := Int.emod_nonneg (IntKind.u64.wrap x) (show (m : Int) ≠ 0 by omega)
  have h2 := Int.emod_lt_of_pos (IntKind.u64.wrap x) (show (0 : Int) < m by omega)
  exact ⟨((IntKind.u64.wrap x) % (m : Int)).toNat, by omega, by omega⟩
theorem HasFull.keep {w w' : World} {a : Addr} (h : HasFull w a) (hb : Below w.heap.size w w') : HasFull w' a := by
  unfold HasFull at h ⊢
  rw [hb.cell (p := ⟨5, 0, none⟩) (lt_of_cell h)]; exact h
theorem full0 : ((St.new 0 85).step aNew).2 = (zw, false) ∧ (((St.new 0 85).step aNew).1).peek 0 0 0 = some zw := by decide
def dr : Wd := d1.ref
theorem laid_is {n : Nat} (h : 1 ≤ n ∧ n ≤ 4) : ((St.new n 85).step aNew).2 = (d1, true) ∧ (layN (St.new n 85) d1 2).peek 0 0 0 = some dr ∧ (layN (St.new n 85) d1 2).peek dr.slot dr.gen 2 = some zw ∧ ((layN (St.new n 85) d1 2).n : Int) - (layN (St.new n 85) d1 2).free.length = 1 := by
  have : n = 1 ∨ n = 2 ∨ n = 3 ∨ n = 4 := by omega
  rcases this with rfl | rfl | rfl | rfl <;> exact ⟨by decide, by decide, by decide, by decide⟩
theorem live_p {w : World} {E : Flt → Addr} {B p bs bb : Nat} {t : St} (h : PlotAt w E B p bs bb t) (hl : (t.n : Int) - t.free.length = 1) : Calls Tryz.prog 22 #[.pointer (some ⟨p, 0, none⟩)] w fun e w' => e = .returned (.int .i64 1) ∧ Below w.heap.size w w' := by
  obtain ⟨⟨v, fv, hq⟩, o, L⟩ := h
  have := live_any hq o
  rw [hl] at this
  exact this
def o8s : List Value := [.int .i64 5, .int .i64 0, .int .i64 0, .int .i64 0, .int .i64 4, .int .i64 0, .int .i64 3, .int .i64 0, .int .i64 5, .int .i64 0, .int .i64 0, .int .i64 0]
theorem done_said8 {y : Rt × Wr} (h : doneC y = true) : y.2.said = [(2, 0), (4, 0), (2, 0)] := by
  unfold doneC at h
  simp only [Bool.and_eq_true, decide_eq_true_eq] at h
  exact h.2
theorem heldA : Tryz.prog.stoodInHeld 49 = false := by kernel_rfl
theorem guardA : Tryz.prog.eqGuardType Tryz.prog.depth 49 = false := by kernel_rfl
theorem eqA2 (w : World) : (binOp .eql 49 (.agg #[.int .i64 2, .int .i64 0]) (.agg #[.int .i64 2, .int .i64 0])).run Tryz.prog w = .ok (.bool true) w := by kernel_rfl
theorem eqA4 (w : World) : (binOp .eql 49 (.agg #[.int .i64 4, .int .i64 0]) (.agg #[.int .i64 4, .int .i64 0])).run Tryz.prog w = .ok (.bool true) w := by kernel_rfl
set_option maxRecDepth 100000 in
set_option maxHeartbeats 4000000 in
theorem clays_zero (E : Flt → Addr) (a : Addr) (x0 x1 : Int) (w : World) (L : Env w E) (hF : HasFull w a) (h0 : wrap64 ((IntKind.u64.wrap x0).tmod 5) = 0) :
    Calls Tryz.prog 10 #[.int .i64 x0, .int .i64 x1] w (True1 w) := by
  have HL := Lib.hid L
  have hB0 := L.size
  have HFU := Lib.hid hF
  clear L hF
  go_enter Tryz.func10, Tryz.ntmps10
  go_wp2_with fail
  refine (Co.awake_is _ (E .arg) HL.out.arg).mono ?_
  rintro f w1 ⟨rfl, hb⟩
  have B1 := Lib.hid hb
  have HF1 := Lib.hid (HFU.out.keep hb)
  have HL1 := Lib.hid (HL.out.keep hb)
  clear hb
  go_wp2_with fail
  refine (Bd.Cells_any w1).mono ?_
  rintro f w2 ⟨rfl, rfl⟩
  go_wp2_with fail
  refine (new_is HL1.out 0 85 (by decide) (by decide)).mono ?_
  rintro f w3 ⟨p, bs, bb, rfl, P3, C3, _, _⟩
  have C := Lib.hid (Cw.none_ P3.out C3.out (HL1.out.size))
  have HY := Lib.hid (Lay_full (a := a) C.out (show (St.new 0 85).steps < 800000 by decide) rfl full0.1 (HF1.out.keep C3.out))
  clear P3 C3 C
  go_wp2_with fail
  refine HY.out.mono ?_
  rintro f w4 ⟨⟨T, y, rfl⟩, C4⟩
  have HI := Lib.hid (Items_zero C4.out full0.2)
  clear C4 HY
  go_wp2_with fail
  refine HI.out.mono ?_
  rintro f w5 ⟨rfl, C5⟩
  have B5 := Lib.hid (B1.out.trans (C5.out.of.1.mono B1.out.size))
  have HN := Lib.hid (Items_nil (HL.out.keep B5.out))
  clear HI C5
  go_wp2_with fail
  refine HN.out.mono ?_
  rintro f w6 ⟨⟨T6, y6, rfl⟩, hb6⟩
  have B6 := Lib.hid (B5.out.trans (hb6.mono B5.out.size))
  have HN2 := Lib.hid (Lay_nil (HL.out.keep B6.out))
  clear hb6 HN B5
  go_wp2_with fail
  refine HN2.out.mono ?_
  rintro f w7 ⟨⟨T7, y7, rfl⟩, hb7⟩
  have B7 := Lib.hid (B6.out.trans (hb7.mono B6.out.size))
  clear hb7 HN2 B6
  go_wp2
  go_ret
  exact ⟨rfl, B7.out⟩
set_option maxRecDepth 100000 in
set_option maxHeartbeats 4000000 in
theorem clays_pos (E : Flt → Addr) (x0 x1 : Int) (w : World) (L : Env w E) (n : Nat) (h1 : 1 ≤ n ∧ n ≤ 4) (h0 : wrap64 ((IntKind.u64.wrap x0).tmod 5) = (n : Int)) (k : Nat) (hk : k < 5) (hk1 : wrap64 ((IntKind.u64.wrap x1).tmod 5) = (k : Int)) :
    Calls Tryz.prog 10 #[.int .i64 x0, .int .i64 x1] w (True1 w) := by
  have HL := Lib.hid L
  have hB0 := L.size
  have HF := Lib.hid (laid_is h1)
  obtain ⟨e, he⟩ : ∃ e : Int, e = (k : Int) + 1 := ⟨_, rfl⟩
  have hs0 : (1 : Int) + (k : Int) = e := by omega
  have e1 : 1 ≤ e ∧ e ≤ 5 := by omega
  have HRS : Hid (runC 100 tLaid (cStart e) = true) := Lib.hid (he ▸ run_start8 hk)
  have n0 : ¬ (n : Int) = 0 := by omega
  have hn4 : n ≤ 1024 := by omega
  clear L he h1 hk
  go_enter Tryz.func10, Tryz.ntmps10
  go_wp2_with fail
  refine (Co.awake_is _ (E .arg) HL.out.arg).mono ?_
  rintro f w1 ⟨rfl, hb⟩
  have B1 := Lib.hid hb
  have HL1 := Lib.hid (HL.out.keep hb)
  clear hb
  go_wp2_with fail
  refine (Bd.Cells_any w1).mono ?_
  rintro f w2 ⟨rfl, rfl⟩
  go_wp2_with fail
  refine (new_is HL1.out n 85 hn4 (by decide)).mono ?_
  rintro f w3 ⟨p, bs, bb, rfl, P3, C3, _, _⟩
  have C := Lib.hid (Cw.none_ P3.out C3.out (HL1.out.size))
  have HY := Lib.hid (Lay_ok C.out (show (St.new n 85).steps < 800000 from (by decide : 0 < 800000)) rfl HF.out.1)
  clear P3 C3 C
  go_wp2_with fail
  refine HY.out.mono ?_
  rintro f w4 ⟨rfl, C4⟩
  have HI := Lib.hid (Items_one C4.out HF.out.2.1 (by decide) HF.out.2.2.1)
  clear C4 HY
  go_wp2_with fail
  refine HI.out.mono ?_
  rintro f w5 ⟨⟨rb, c, rfl⟩, C5⟩
  have B5 := Lib.hid (B1.out.trans (C5.out.of.1.mono B1.out.size))
  have HN := Lib.hid (Items_nil (HL.out.keep B5.out))
  clear HI
  go_wp2_with fail
  refine HN.out.mono ?_
  rintro f w6 ⟨⟨T6, y6, rfl⟩, hb6⟩
  have B6 := Lib.hid (B5.out.trans (hb6.mono B5.out.size))
  have HLV := Lib.hid (live_p (cwPlot (C5.out.below hb6)).1 HF.out.2.2.2)
  clear hb6 HN B5 C5
  go_wp2_with fail
  refine HLV.out.mono ?_
  rintro f w7 ⟨rfl, hb7⟩
  have B7 := Lib.hid (B6.out.trans (hb7.mono B6.out.size))
  have HL7 := Lib.hid (HL.out.keep B7.out)
  clear hb7 HLV B6 HL1 B1 HF
  go_wp2_with fail
  have h8 : BlkW ((w7.alloc (.cells o8s.toArray 78)).alloc (.cells #[.slice (some ⟨w7.heap.size, 0, none⟩) 3 3] 79)) w7.heap.size 78 o8s.toArray := (BlkW.new w7 78 o8s.toArray).alloc _
  have h9 := BlkW.new (w7.alloc (.cells o8s.toArray 78)) 79 #[.slice (some ⟨w7.heap.size, 0, none⟩) 3 3]
  have hb8 := below_alloc (below_alloc (Below.refl w7.heap.size w7) (.cells o8s.toArray 78)) (.cells #[.slice (some ⟨w7.heap.size, 0, none⟩) 3 3] 79)
  have hz8 : (w7.alloc (.cells o8s.toArray 78)).heap.size = w7.heap.size + 1 := World.size_alloc ..
  rw [hz8] at h9
  show Calls _ _ _ ((w7.alloc (.cells o8s.toArray 78)).alloc (.cells #[.slice (some ⟨w7.heap.size, 0, none⟩) 3 3] 79)) _
  clear hz8
  generalize (w7.alloc (.cells o8s.toArray 78)).alloc (.cells #[.slice (some ⟨w7.heap.size, 0, none⟩) 3 3] 79) = w8 at h8 h9 hb8 ⊢
  have HCW := Lib.hid (crew_is E w8 (HL7.out.keep hb8) e 1 1 1 e1 (by decide) (by decide) (by decide) (fun _ => ops8) (fun _ => w7.heap.size) (fun _ => 3) (fun _ => o8s.toArray) (w7.heap.size + 1) 1 (d := d1) (by decide) (fun j hj => by
    obtain rfl : j = 0 := by omega
    exact h9.cell 0) (fun j hj => ⟨h8, Nat.le_refl _, fun k hk => by
      have hk3 : k < 3 := hk
      have : k = 0 ∨ k = 1 ∨ k = 2 := by omega
      rcases this with rfl | rfl | rfl <;> rfl⟩) (Nat.le_refl _))
  have B8 := Lib.hid (B7.out.trans (hb8.mono B7.out.size))
  clear h8 h9 hb8 HL7 B7
  refine HCW.out.mono ?_
  rintro f w9 ⟨p', bs', bb', g, lb, cap, rfl, hcap, C9, B9⟩
  have HRT := Lib.hid (rest_is C9.out ⟨rfl, 99, Nat.le_refl _, HRS.out⟩ (by decide) (by omega) (by decide : tLaid.steps ≤ 800000))
  clear HCW B9 C9 HRS
  go_wp2_with fail
  refine HRT.out.mono ?_
  rintro f w10 ⟨rfl, t', x', hdn, C10⟩
  have BA := Lib.hid (B8.out.trans (C10.out.of.1.mono B8.out.size))
  obtain ⟨cr, zr⟩ := C10.out.row (show 0 < 1 by decide)
  obtain ⟨sb, cp4, c4, zg, zs, hc4, hsaid⟩ := C10.out.said (show 0 < 1 by decide) (done_said8 (hdn 0 (by decide))) (by decide)
  obtain ⟨d0, d1⟩ := hsaid 0 (by decide)
  obtain ⟨d2, d3⟩ := hsaid 1 (by decide)
  obtain ⟨d4, d5⟩ := hsaid 2 (by decide)
  obtain ⟨gk, hgk⟩ : ∃ gk, gk = g 0 := ⟨_, rfl⟩
  rw [← hgk] at c4 zg cr
  clear hgk HRT B8 C10 hdn hsaid
  have q1 := heldA
  have q2 := guardA
  have q3 := eqA2
  have q4 := eqA4
  go_wp2
  go_ret
  exact ⟨rfl, BA.out⟩
theorem clays_any (E : Flt → Addr) (a : Addr) (x0 x1 : Int) (w : World) (L : Env w E) (hF : HasFull w a) : Calls Tryz.prog 10 #[.int .i64 x0, .int .i64 x1] w (True1 w) := by
  obtain ⟨k0, hk0, hx0⟩ := u64_mod_ x0 5 (by omega)
  obtain ⟨k1, hk1, hx1⟩ := u64_mod_ x1 5 (by omega)
  have hw0 : wrap64 ((IntKind.u64.wrap x0).tmod 5) = (k0 : Int) := by
    have e : (IntKind.u64.wrap x0).tmod 5 = (k0 : Int) := hx0
    rw [e]
    exact IntWalk.wrap64_in _ ⟨by omega, by omega⟩
  have hw1 : wrap64 ((IntKind.u64.wrap x1).tmod 5) = (k1 : Int) := by
    have e : (IntKind.u64.wrap x1).tmod 5 = (k1 : Int) := hx1
    rw [e]
    exact IntWalk.wrap64_in _ ⟨by omega, by omega⟩
  by_cases h : k0 = 0
  · subst h
    exact clays_zero E a x0 x1 w L hF hw0
  · exact clays_pos E x0 x1 w L k0 ⟨by omega, by omega⟩ hw0 k1 hk1 hw1
end Go.Proofs.YtihjklimcchkhaaGreatDoor.Cq
