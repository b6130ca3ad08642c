/-
What is said is heard as it was: the law BoardHears returns true at every input, and its arguments read afterwards as before.
Conditions: the card's own (the named error ErrArg holds what the program's text lays).
-/
import Derived.Test.YtnjlodgdedodgaaDoorBhears
import Derived.Test.YtnjlodgdedodgaaDoorBargs
import Derived.Test.YtnjlodgdedodgaaDoorTie
import Derived.Test.YtnjlodgdedodgaaDoorCards
import Derived.SevenTiedAt
namespace Go.Proofs.YtnjlodgdedodgaaDoor
open Go.RowKit Go.WideShapes Go.ChangeShapes Go.ChangeAt Go.WideMaps Go.WideElems

set_option maxRecDepth 100000 in
theorem boardHears_lifted (os : Os) (started : os.Started) (H : Type) (enc : TypeId × Value → H) :
    ReturnsInHanded {} Tryd.checked os 6 .any (fun w args => (Rows.boardHearsSpec.pre enc Tryd.prog Tryd.f6 [] false w args ∧ laidMetH Tryd.prog LA w) ∧ sizedMet enc Tryd.prog Tryd.f6 (OpenSpec.ofChange Rows.boardHearsSpec) false w args)
      (Rows.boardHearsSpec.post enc Tryd.prog Tryd.f6 false true false false) := by
  refine handed_laid (C := Tryd.checked) own started (by kernel_rfl) Tryd.func6
    (ChangeSpec.witness_shaped (enc := enc) (C := Tryd.checked) (os := os) (X := fun w _ => laidMetH Tryd.prog LA w) false (World.doorLaid Tryd.prog 400 os) #[.agg #[.bool false, .int .i64 0, .int .i64 0], .agg #[.bool false, .int .i64 0, .int .i64 0]] 8 rfl (door_shaped os _) (by kernel_rfl) (by kernel_rfl) (by kernel_rfl) (doorA_met os _)) ?_
  intro W base args ds gs before hval0 hW hL _
  have hval : ∀ (j : Nat) t v, Tryd.f6.params[j]? = some t → args[j]? = some v → Value.okWide Tryd.prog W .any base t v := hval0
  have hW' := hW
  obtain ⟨p, q, hA0, hV, rfl, hfz, hnd⟩ := hW
  have hA : DataW.TrodAll enc Tryd.prog W 0 (fun _ => true) true Tryd.f6.params.toList args.toList ds p := hA0
  rw [Tryd.params6] at hA hval
  obtain ⟨v0, v1, d0, d1, p0, p1, rfl, rfl, rfl, h0, h1⟩ := trodAll_two hA
  obtain ⟨rfl, rfl⟩ := trodVars_none hV
  obtain ⟨s0, g0, f0, rfl⟩ := span_of (hval 0 48 v0 rfl rfl) h0
  obtain ⟨s1, g1, f1, rfl⟩ := span_of (hval 1 48 v1 rfl rfl) h1
  obtain ⟨a, L⟩ := envA hL
  refine (hears_any s0 g0 f0 s1 g1 f1 a W L).mono fun e W' h => ?_
  obtain ⟨he, hb⟩ := h
  exact ⟨_, he, law_post (H := H) (enc := enc) laidOut' (f := Tryd.f6) (s := Rows.boardHearsSpec) rfl Tryd.underlying4 (by decide +kernel) rfl hW' rfl hb⟩

theorem boardHears_holds : Rows.BoardHearsSaid :=
  OpenClaim.holds_of_wide 6 Tryd.f6 rfl rfl rfl rfl rfl rfl rfl ⟨rfl, rfl, rfl, rfl, rfl⟩ rfl rfl rfl rfl rfl (by kernel_rfl) Tryd.func6 (by kernel_rfl)
    (of_decide_eq_true (by kernel_rfl)) (by unfold Func.isWrapper; first | (rw [if_pos (by decide +kernel)]; kernel_rfl) | (rw [if_neg (by decide +kernel)]; exact ⟨rfl, rfl⟩))
    (fun os started H enc _ => boardHears_lifted os started H enc)

set_option maxRecDepth 100000 in
theorem boardHears_card_holds : Rows.BoardHearsCardSaid :=
  Claim7.holds_tied_plain_at .later [] [.sentinel] true (true, "2c13ad36ba8d5298a131958927ee5f10ee50efb6ae32e1e1ef8d134691bc4be3") true
    boardHears_holds (fun _ h => by cases h) (by kernel_rfl) (fun _ h => by cases h) boardHears_row_tie rfl ⟨rfl, rfl⟩ (by kernel_rfl) rfl
    (fun f fn hf hfn => by
      obtain rfl : f = 6 := Option.some.inj ((show Tryd.prog.funcNamed "sexton/sextonlaw04.BoardHears" = some 6 by kernel_rfl).symm.trans hf) |>.symm
      obtain rfl : fn = Tryd.f6 := (Option.some.inj (Tryd.func6.symm.trans hfn)).symm
      exact ⟨by kernel_rfl, fun j t ht => by
        rw [Tryd.params6] at ht
        have hm : t ∈ [48, 48] := by simpa using Array.mem_of_getElem? ht
        have hall : ([48, 48].all fun u => !Tryd.prog.wantsStandIn u) = true := by kernel_rfl
        exact (show Tryd.prog.wantsStandIn t = false by simpa using List.all_eq_true.1 hall t hm)⟩)
    (by kernel_rfl)
#print axioms boardHears_card_holds
end Go.Proofs.YtnjlodgdedodgaaDoor
