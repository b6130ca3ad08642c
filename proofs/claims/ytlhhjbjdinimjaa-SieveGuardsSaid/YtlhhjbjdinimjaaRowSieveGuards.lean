/-
What a thread keeps stays: the law SieveGuards returns true at every input, and its arguments read afterwards as before.
Conditions: none.
-/
import Derived.Test.YtlhhjbjdinimjaaSh
import Derived.Test.YtlhhjbjdinimjaaSa
namespace Go.Proofs.Ytlhhjbjdinimjaa
open Go.ChangeShapes Go.WideShapes Go.ChangeAt Go.RowKit

set_option maxRecDepth 100000 in
theorem sieveGuards_lifted (os : Os) (started : os.Started) (H : Type) (enc : TypeId × Value → H) :
    ReturnsInHanded {} Try.checked os 5 .any (Rows.sieveGuardsSpec.pre6 enc Try.prog Try.f5 Rows.sieveGuardsRow.domain false) (Rows.sieveGuardsSpec.post enc Try.prog Try.f5 false true false false) := by
  refine returnsInHanded_of_change (C := Try.checked) own started (by kernel_rfl) Try.func5
    (ChangeSpec.witness6 (enc := enc) (C := Try.checked) false ⟨#[], #[.agg #[.int .i64 0, .int .i64 0, .int .i64 0, .int .i64 0, .bool false, .int .i64 0, .int .i64 0], .int .i64 0, .agg #[.bool false, .int .i64 0, .int .i64 0], .agg #[.slice none 0 0, .slice none 0 0, .slice none 0 0, .int .i64 0]], []⟩ 8 (by kernel_rfl) (by kernel_rfl) (by kernel_rfl) (by kernel_rfl)) ?_
  intro W base args ds gs before hval0 hW _ _
  have hval : ∀ (j : Nat) t v, Try.f5.params[j]? = some t → args[j]? = some v → Value.okWide Try.prog W .any base t v := hval0
  have hW' := hW
  obtain ⟨p, q, hA0, hV, rfl, hfz, hnd⟩ := hW
  have hA : DataW.TrodAll enc Try.prog W 0 (fun _ => true) true Try.f5.params.toList args.toList ds p := hA0
  rw [Try.params5] at hA hval
  obtain ⟨v0, v1, v2, v3, d0, d1, d2, d3, p0, p1, p2, p3, rfl, rfl, rfl, h0, h1, h2, h3⟩ := trodAll_four hA
  obtain ⟨rfl, rfl⟩ := trodVars_none hV
  obtain ⟨k0, rfl⟩ := note_of (hval 0 39 v0 rfl rfl) h0
  obtain ⟨n1, rfl, rfl, rfl, _⟩ := open_int Try.underlying3 (hval 1 3 v1 rfl rfl) h1
  obtain ⟨k2, rfl⟩ := span_of (hval 2 41 v2 rfl rfl) h2
  obtain ⟨k3, rfl, g3⟩ := kept_of (hval 3 27 v3 rfl rfl) h3
  refine (guards_any k0 n1 k2 k3 W g3).mono fun e W' h => ?_
  obtain ⟨he, hb⟩ := h
  exact ⟨_, he, law_post (H := H) (enc := enc) laidOut' (f := Try.f5) (s := Rows.sieveGuardsSpec) rfl Try.underlying4 (by decide +kernel) rfl hW' rfl hb⟩

theorem sieveGuards_holds : Rows.SieveGuardsSaid :=
  OpenClaim.holds_of_wide 5 Try.f5 rfl rfl rfl rfl rfl rfl rfl ⟨rfl, rfl, rfl, rfl, rfl⟩ rfl rfl rfl rfl rfl (by kernel_rfl) Try.func5 (by kernel_rfl)
    (of_decide_eq_true (by kernel_rfl)) (by unfold Func.isWrapper; first | (rw [if_pos (by decide +kernel)]; kernel_rfl) | (rw [if_neg (by decide +kernel)]; exact ⟨rfl, rfl⟩))
    (fun os started H enc _ => sieveGuards_lifted os started H enc)
#print axioms sieveGuards_holds
end Go.Proofs.Ytlhhjbjdinimjaa
