/-
Of every operation and every row of replies each call of a queue's job is what the document says: the law CortegeExact returns true at every input, and its arguments read afterwards as before.
Conditions: the card's own (the named error ErrArg holds what the program's text lays).
-/
import Derived.Test.YtihjklimcchkhaaDoorCj
import Derived.Test.YtihjklimcchkhaaDoorCv
import Derived.Test.YtihjklimcchkhaaDoorTie
import Derived.Test.YtihjklimcchkhaaDoorCards
import Derived.SevenTiedAt
namespace Go.Proofs.YtihjklimcchkhaaDoor
open Go.RowKit Go.WideShapes Go.ChangeShapes Go.ChangeAt Go.WideMaps Go.WideElems Co

set_option maxRecDepth 100000 in
theorem cortegeExact_lifted (os : Os) (started : os.Started) (H : Type) (enc : TypeId × Value → H) :
    ReturnsInHanded {} Tryd.checked os 3 .any (fun w args => (Rows.cortegeExactSpec.pre enc Tryd.prog Tryd.f3 [] false w args ∧ laidMetH Tryd.prog LE w) ∧ sizedMet enc Tryd.prog Tryd.f3 (OpenSpec.ofChange Rows.cortegeExactSpec) false w args)
      (Rows.cortegeExactSpec.post enc Tryd.prog Tryd.f3 false true false false) := by
  refine handed_laid (C := Tryd.checked) own started (by kernel_rfl) Tryd.func3
    (ChangeSpec.witness_shaped (enc := enc) (C := Tryd.checked) (os := os) (X := fun w _ => laidMetH Tryd.prog LE w) false (World.doorLaid Tryd.prog 400 os) #[.agg #[.int .i64 0, .int .i64 0, .int .i64 0, .int .i64 0], .slice none 0 0] 8 rfl (door_shaped os _) (by kernel_rfl) (by kernel_rfl) (by kernel_rfl) (doorE_met os _)) ?_
  intro W base args ds gs before hval0 hW hL hSh
  have hval : ∀ (j : Nat) t v, Tryd.f3.params[j]? = some t → args[j]? = some v → Value.okWide Tryd.prog W .any base t v := hval0
  have hW' := hW
  obtain ⟨p, q, hA0, hV, rfl, hfz, hnd⟩ := hW
  have hA : DataW.TrodAll enc Tryd.prog W 0 (fun _ => true) true Tryd.f3.params.toList args.toList ds p := hA0
  rw [Tryd.params3] at hA hval
  obtain ⟨v0, v1, d0, d1, p0, p1, rfl, rfl, rfl, h0, h1⟩ := trodAll_two hA
  obtain ⟨rfl, rfl⟩ := trodVars_none hV
  obtain ⟨o0, rfl⟩ := op_of (hval 0 23 v0 rfl rfl) h0
  obtain ⟨xs1, hr1⟩ := row_of_reps (hval 1 24 v1 rfl rfl) h1
  obtain ⟨a, L⟩ := envE hL
  refine (cexact_any o0 v1 xs1 a W L hr1).mono fun e W' h => ?_
  obtain ⟨he, hb⟩ := h
  exact ⟨_, he, law_post (H := H) (enc := enc) laidOut' (f := Tryd.f3) (s := Rows.cortegeExactSpec) rfl Tryd.underlying4 (by decide +kernel) rfl hW' rfl hb⟩

theorem cortegeExact_holds : Rows.CortegeExactSaid :=
  OpenClaim.holds_of_wide 3 Tryd.f3 rfl rfl rfl rfl rfl rfl rfl ⟨rfl, rfl, rfl, rfl, rfl⟩ rfl rfl rfl rfl rfl (by kernel_rfl) Tryd.func3 (by kernel_rfl)
    (of_decide_eq_true (by kernel_rfl)) (by unfold Func.isWrapper; first | (rw [if_pos (by decide +kernel)]; kernel_rfl) | (rw [if_neg (by decide +kernel)]; exact ⟨rfl, rfl⟩))
    (fun os started H enc _ => cortegeExact_lifted os started H enc)

set_option maxRecDepth 100000 in
theorem cortegeExact_card_holds : Rows.CortegeExactCardSaid :=
  Claim7.holds_tied_plain_at .later [] [.sentinel] true (true, "b76c1c483dbc4947c0c87042686d43e1e0bf045004e68bdafbda1a508e1457fd") true
    cortegeExact_holds (fun _ h => by cases h) (by kernel_rfl) (fun _ h => by cases h) cortegeExact_row_tie rfl ⟨rfl, rfl⟩ (by kernel_rfl) rfl
    (fun f fn hf hfn => by
      obtain rfl : f = 3 := Option.some.inj ((show Tryd.prog.funcNamed "sexton/sextonlaw08.CortegeExact" = some 3 by kernel_rfl).symm.trans hf) |>.symm
      obtain rfl : fn = Tryd.f3 := (Option.some.inj (Tryd.func3.symm.trans hfn)).symm
      exact ⟨by kernel_rfl, fun j t ht => by
        rw [Tryd.params3] at ht
        have hm : t ∈ [23, 24] := by simpa using Array.mem_of_getElem? ht
        have hall : ([23, 24].all fun u => !Tryd.prog.wantsStandIn u) = true := by kernel_rfl
        exact (show Tryd.prog.wantsStandIn t = false by simpa using List.all_eq_true.1 hall t hm)⟩)
    (by kernel_rfl)
#print axioms cortegeExact_card_holds
end Go.Proofs.YtihjklimcchkhaaDoor
