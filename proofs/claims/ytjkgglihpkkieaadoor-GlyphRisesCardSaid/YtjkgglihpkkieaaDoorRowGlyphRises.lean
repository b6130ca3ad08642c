/-
Each change raises the tag by one, and behind so many changes no word is the same as any ahead of it: the law GlyphRises returns true at every input, and its arguments read afterwards as before.
Conditions: the card's own (the nine listed variables hold what the program's text lays; unicode/utf8.first is a pinned table).
-/
import Derived.Test.YtjkgglihpkkieaaDoorH
import Derived.Test.YtjkgglihpkkieaaDoorTie
import Derived.Test.YtjkgglihpkkieaaDoorCards
import Derived.SevenTiedAt
namespace Go.Proofs.YtjkgglihpkkieaaDoor
open Go.RowKit Go.WideShapes Go.ChangeShapes Go.ChangeAt Go.WideMaps Go.WideElems

set_option maxRecDepth 100000 in
theorem glyphRises_lifted (os : Os) (started : os.Started) (H : Type) (enc : TypeId × Value → H) :
    ReturnsInHanded {} Tryd.checked os 7 .any (fun w args => (Rows.glyphRisesSpec.pre enc Tryd.prog Tryd.f7 [] false w args ∧ laidMetH Tryd.prog LL w) ∧ sizedMet enc Tryd.prog Tryd.f7 (OpenSpec.ofChange Rows.glyphRisesSpec) false w args)
      (Rows.glyphRisesSpec.post enc Tryd.prog Tryd.f7 false true false false) := by
  refine handed_laid (C := Tryd.checked) own started (by kernel_rfl) Tryd.func7
    (ChangeSpec.witness_shaped (enc := enc) (C := Tryd.checked) (os := os) (X := fun w _ => laidMetH Tryd.prog LL w) false (World.laidAll Tryd.prog os LL) #[.agg #[.int .i64 0, .int .i64 0, .int .i64 0, .int .i64 0, .bool false], .slice none 0 0] 8 (World.laidAll_os _ _ _) (wit_shaped os _) (by kernel_rfl) (by kernel_rfl) (by kernel_rfl) (wit_met os _)) ?_
  intro W base args ds gs before hval0 hW hL hsh
  have hval : ∀ (j : Nat) t v, Tryd.f7.params[j]? = some t → args[j]? = some v → Value.okWide Tryd.prog W .any base t v := hval0
  have hW' := hW
  have hlt : ∀ p ∈ before, p.block < W.heap.size := fun p hp => hW.lt p hp
  obtain ⟨p, q, hA0, hV, rfl, hfz, hnd⟩ := hW
  have hA : DataW.TrodAll enc Tryd.prog W 0 (fun _ => true) true Tryd.f7.params.toList args.toList ds p := hA0
  rw [Tryd.params7] at hA hval
  obtain ⟨v0, v1, d0, d1, p0, p1, rfl, rfl, rfl, h0, h1⟩ := trodAll_two hA
  obtain ⟨rfl, rfl⟩ := trodVars_none hV
  obtain ⟨s0, g0, t0, m0, k0, rfl⟩ := word_of (hval 0 23 v0 rfl rfl) h0
  obtain ⟨xs1, hr1⟩ := row_of_ints (hval 1 44 v1 rfl rfl) h1 (fun x hx => hlt x (by simp [hx]))
  obtain ⟨a, b, L⟩ := env_of hL hsh
  refine (rises_any a b s0 g0 t0 m0 k0 v1 xs1 W L hr1).mono fun e W' h => ?_
  obtain ⟨he, hb⟩ := h
  exact ⟨_, he, law_post (H := H) (enc := enc) laidOut' (f := Tryd.f7) (s := Rows.glyphRisesSpec) rfl Tryd.underlying4 (by decide +kernel) rfl hW' rfl hb⟩

theorem glyphRises_holds : Rows.GlyphRisesSaid :=
  OpenClaim.holds_of_wide 7 Tryd.f7 rfl rfl rfl rfl rfl rfl rfl ⟨rfl, rfl, rfl, rfl, rfl⟩ rfl rfl rfl rfl rfl (by kernel_rfl) Tryd.func7 (by kernel_rfl)
    (of_decide_eq_true (by kernel_rfl)) (by unfold Func.isWrapper; first | (rw [if_pos (by decide +kernel)]; kernel_rfl) | (rw [if_neg (by decide +kernel)]; exact ⟨rfl, rfl⟩))
    (fun os started H enc _ => glyphRises_lifted os started H enc)

set_option maxRecDepth 100000 in
theorem glyphRises_card_holds : Rows.GlyphRisesCardSaid :=
  Claim7.holds_tied_plain_at .later [] [.data, .data, .data, .data, .sentinel, .sentinel, .sentinel, .sentinel, .pinned] true (true, "97abfac25a9a6494cf1274fe6921a598b429b09ac983b9346cd422786d1eb657") true
    glyphRises_holds (fun _ h => by cases h) (by kernel_rfl) (fun _ h => by cases h) glyphRises_row_tie rfl ⟨rfl, rfl⟩ (by kernel_rfl) rfl
    (fun f fn hf hfn => by
      obtain rfl : f = 7 := Option.some.inj ((show Tryd.prog.funcNamed "sexton/sextonlaw02.GlyphRises" = some 7 by kernel_rfl).symm.trans hf) |>.symm
      obtain rfl : fn = Tryd.f7 := (Option.some.inj (Tryd.func7.symm.trans hfn)).symm
      exact ⟨by kernel_rfl, fun j t ht => by
        rw [Tryd.params7] at ht
        have hm : t ∈ [23, 44] := by simpa using Array.mem_of_getElem? ht
        have hall : ([23, 44].all fun u => !Tryd.prog.wantsStandIn u) = true := by kernel_rfl
        exact (show Tryd.prog.wantsStandIn t = false by simpa using List.all_eq_true.1 hall t hm)⟩)
    (by kernel_rfl)
#print axioms glyphRises_card_holds
end Go.Proofs.YtjkgglihpkkieaaDoor
