/-
A thread has few notes by announcements of slots, whatever the others do: the law RiteBounds returns true at every input, and its arguments read afterwards as before.
Conditions: the card's own (the listed variables hold what the program's text lays).
-/
import Derived.Test.YtjilhncnbkaebaaGreatDoorTm
import Derived.Test.YtjilhncnbkaebaaGreatDoorTn
import Derived.Test.YtjilhncnbkaebaaGreatDoorTie
import Derived.Test.YtjilhncnbkaebaaGreatDoorCards
import Derived.SevenTiedAt
namespace Go.Proofs.YtjilhncnbkaebaaGreatDoor
open Go.RowKit Go.WideShapes Go.ChangeShapes Go.ChangeAt Go.WideMaps Go.WideElems

set_option maxRecDepth 100000 in
theorem riteBounds_lifted (os : Os) (started : os.Started) (H : Type) (enc : TypeId × Value → H) :
    ReturnsInHanded {} Tryz.checked os 4 .any (fun w args => (Rows.riteBoundsSpec.pre enc Tryz.prog Tryz.f4 [] false w args ∧ laidMetH Tryz.prog LF w) ∧ sizedMet enc Tryz.prog Tryz.f4 (OpenSpec.ofChange Rows.riteBoundsSpec) false w args)
      (Rows.riteBoundsSpec.post enc Tryz.prog Tryz.f4 false true false false) := by
  refine handed_laid (C := Tryz.checked) own started (by kernel_rfl) Tryz.func4
    (ChangeSpec.witness_shaped (enc := enc) (C := Tryz.checked) (os := os) (X := fun w _ => laidMetH Tryz.prog LF w) false (World.doorLaid Tryz.prog 400 os) #[.agg #[.int .i64 0, .int .i64 0, .int .i64 0], .slice none 0 0] 8 rfl (door_shaped os _) (by kernel_rfl) (by kernel_rfl) (by kernel_rfl) (doorF_met os _)) ?_
  intro W base args ds gs before hval0 hW hL hSh
  have hval : ∀ (j : Nat) t v, Tryz.f4.params[j]? = some t → args[j]? = some v → Value.okWide Tryz.prog W .any base t v := hval0
  have hW' := hW
  have hlt : ∀ p ∈ before, p.block < W.heap.size := fun p hp => hW.lt p hp
  obtain ⟨p, q, hA0, hV, rfl, hfz, hnd⟩ := hW
  have hA : DataW.TrodAll enc Tryz.prog W 0 (fun _ => true) true Tryz.f4.params.toList args.toList ds p := hA0
  rw [Tryz.params4] at hA hval
  obtain ⟨v0, v1, d0, d1, p0, p1, rfl, rfl, rfl, h0, h1⟩ := trodAll_two hA
  obtain ⟨rfl, rfl⟩ := trodVars_none hV
  obtain ⟨s0, g0, f0, rfl⟩ := arr_of (hval 0 41 v0 rfl rfl) h0
  obtain ⟨xs1, hr1⟩ := row_of_ints (hval 1 23 v1 rfl rfl) h1 (fun x hx => hlt x (by simp [hx]))
  obtain ⟨E, L⟩ := envF hL hSh
  refine (bounds_any E s0 g0 f0 v1 xs1 W L hr1).mono fun e W' h => ?_
  obtain ⟨he, hb⟩ := h
  exact ⟨_, he, law_post (H := H) (enc := enc) laidOut' (f := Tryz.f4) (s := Rows.riteBoundsSpec) rfl Tryz.underlying4 (by decide +kernel) rfl hW' rfl hb⟩

theorem riteBounds_holds : Rows.RiteBoundsSaid :=
  OpenClaim.holds_of_wide 4 Tryz.f4 rfl rfl rfl rfl rfl rfl rfl ⟨rfl, rfl, rfl, rfl, rfl⟩ rfl rfl rfl rfl rfl (by kernel_rfl) Tryz.func4 (by kernel_rfl)
    (of_decide_eq_true (by kernel_rfl)) (by unfold Func.isWrapper; first | (rw [if_pos (by decide +kernel)]; kernel_rfl) | (rw [if_neg (by decide +kernel)]; exact ⟨rfl, rfl⟩))
    (fun os started H enc _ => riteBounds_lifted os started H enc)

set_option maxRecDepth 100000 in
theorem riteBounds_card_holds : Rows.RiteBoundsCardSaid :=
  Claim7.holds_tied_plain_at .later [] [.sentinel, .sentinel, .sentinel, .sentinel, .sentinel, .sentinel] true (true, "365b611e4d996a739c83b1783ac7e85d43bb50bb6ee3d9c275deb78ba62905d9") true
    riteBounds_holds (fun _ h => by cases h) (by kernel_rfl) (fun _ h => by cases h) riteBounds_row_tie rfl ⟨rfl, rfl⟩ (by kernel_rfl) rfl
    (fun f fn hf hfn => by
      obtain rfl : f = 4 := Option.some.inj ((show Tryz.prog.funcNamed "sexton/sextonlaw06.RiteBounds" = some 4 by kernel_rfl).symm.trans hf) |>.symm
      obtain rfl : fn = Tryz.f4 := (Option.some.inj (Tryz.func4.symm.trans hfn)).symm
      exact ⟨by kernel_rfl, fun j t ht => by
        rw [Tryz.params4] at ht
        have hm : t ∈ [41, 23] := by simpa using Array.mem_of_getElem? ht
        have hall : ([41, 23].all fun u => !Tryz.prog.wantsStandIn u) = true := by kernel_rfl
        exact (show Tryz.prog.wantsStandIn t = false by simpa using List.all_eq_true.1 hall t hm)⟩)
    (by kernel_rfl)
#print axioms riteBounds_card_holds
end Go.Proofs.YtjilhncnbkaebaaGreatDoor
