/-
Each note is judged by itself: the law SieveEach returns true at every input, and its arguments read afterwards as before.
Conditions: none.
-/
import Derived.Test.YtlhhjbjdinimjaaSu
import Derived.Test.YtlhhjbjdinimjaaSa
namespace Go.Proofs.Ytlhhjbjdinimjaa
open Go.ChangeShapes Go.WideShapes Go.ChangeAt Go.RowKit

set_option maxRecDepth 100000 in
theorem sieveEach_lifted (os : Os) (started : os.Started) (H : Type) (enc : TypeId × Value → H) :
    ReturnsInHanded {} Try.checked os 6 .any (Rows.sieveEachSpec.pre6 enc Try.prog Try.f6 Rows.sieveEachRow.domain false) (Rows.sieveEachSpec.post enc Try.prog Try.f6 false true false false) := by
  refine returnsInHanded_of_change (C := Try.checked) own started (by kernel_rfl) Try.func6
    (ChangeSpec.witness6 (enc := enc) (C := Try.checked) false ⟨#[], #[.slice none 0 0, .slice none 0 0, .agg #[.slice none 0 0, .slice none 0 0, .slice none 0 0, .int .i64 0]], []⟩ 8 (by kernel_rfl) (by kernel_rfl) (by kernel_rfl) (by kernel_rfl)) ?_
  intro W base args ds gs before hval0 hW _ _
  have hval : ∀ (j : Nat) t v, Try.f6.params[j]? = some t → args[j]? = some v → Value.okWide Try.prog W .any base t v := hval0
  have hW' := hW
  obtain ⟨p, q, hA0, hV, rfl, hfz, hnd⟩ := hW
  have hA : DataW.TrodAll enc Try.prog W 0 (fun _ => true) true Try.f6.params.toList args.toList ds p := hA0
  rw [Try.params6] at hA hval
  obtain ⟨v0, v1, v2, d0, d1, d2, p0, p1, p2, rfl, rfl, rfl, h0, h1, h2⟩ := trodAll_three hA
  obtain ⟨rfl, rfl⟩ := trodVars_none hV
  obtain ⟨xs0, g0⟩ := notes_of (hval 0 22 v0 rfl rfl) h0
  obtain ⟨xs1, g1⟩ := notes_of (hval 1 22 v1 rfl rfl) h1
  obtain ⟨k2, rfl, g2⟩ := kept_of (hval 2 27 v2 rfl rfl) h2
  refine (each_any _ _ xs0 xs1 k2 W g0 g1 g2).mono fun e W' h => ?_
  obtain ⟨he, hb⟩ := h
  exact ⟨_, he, law_post (H := H) (enc := enc) laidOut' (f := Try.f6) (s := Rows.sieveEachSpec) rfl Try.underlying4 (by decide +kernel) rfl hW' rfl hb⟩

theorem sieveEach_holds : Rows.SieveEachSaid :=
  OpenClaim.holds_of_wide 6 Try.f6 rfl rfl rfl rfl rfl rfl rfl ⟨rfl, rfl, rfl, rfl, rfl⟩ rfl rfl rfl rfl rfl (by kernel_rfl) Try.func6 (by kernel_rfl)
    (of_decide_eq_true (by kernel_rfl)) (by unfold Func.isWrapper; first | (rw [if_pos (by decide +kernel)]; kernel_rfl) | (rw [if_neg (by decide +kernel)]; exact ⟨rfl, rfl⟩))
    (fun os started H enc _ => sieveEach_lifted os started H enc)
#print axioms sieveEach_holds
end Go.Proofs.Ytlhhjbjdinimjaa
