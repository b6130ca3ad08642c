/-
Same is an equality that doesn't see generations: the law GlyphSame returns true at every input, and its arguments read afterwards as before.
Conditions: the card's own (the nine listed variables hold what the program's text lays; unicode/utf8.first is a pinned table).
-/
import Derived.Test.YtjkgglihpkkieaaDoorH
import Derived.Test.YtjkgglihpkkieaaDoorTie
import Derived.Test.YtjkgglihpkkieaaDoorCards
import Derived.SevenTiedAt
namespace Go.Proofs.YtjkgglihpkkieaaDoor
open Go.RowKit Go.WideShapes Go.ChangeShapes Go.ChangeAt Go.WideMaps Go.WideElems

set_option maxRecDepth 100000 in
theorem glyphSame_lifted (os : Os) (started : os.Started) (H : Type) (enc : TypeId × Value → H) :
    ReturnsInHanded {} Tryd.checked os 6 .any (fun w args => (Rows.glyphSameSpec.pre enc Tryd.prog Tryd.f6 [] false w args ∧ laidMetH Tryd.prog LL w) ∧ sizedMet enc Tryd.prog Tryd.f6 (OpenSpec.ofChange Rows.glyphSameSpec) false w args)
      (Rows.glyphSameSpec.post enc Tryd.prog Tryd.f6 false true false false) := by
  refine handed_laid (C := Tryd.checked) own started (by kernel_rfl) Tryd.func6
    (ChangeSpec.witness_shaped (enc := enc) (C := Tryd.checked) (os := os) (X := fun w _ => laidMetH Tryd.prog LL w) false (World.laidAll Tryd.prog os LL) #[.agg #[.int .i64 0, .int .i64 0, .int .i64 0, .int .i64 0, .bool false], .agg #[.int .i64 0, .int .i64 0, .int .i64 0, .int .i64 0, .bool false], .agg #[.int .i64 0, .int .i64 0, .int .i64 0, .int .i64 0, .bool false], .int .i64 0] 8 (World.laidAll_os _ _ _) (wit_shaped os _) (by kernel_rfl) (by kernel_rfl) (by kernel_rfl) (wit_met os _)) ?_
  intro W base args ds gs before hval0 hW hL hsh
  have hval : ∀ (j : Nat) t v, Tryd.f6.params[j]? = some t → args[j]? = some v → Value.okWide Tryd.prog W .any base t v := hval0
  have hW' := hW
  have hlt : ∀ p ∈ before, p.block < W.heap.size := fun p hp => hW.lt p hp
  obtain ⟨p, q, hA0, hV, rfl, hfz, hnd⟩ := hW
  have hA : DataW.TrodAll enc Tryd.prog W 0 (fun _ => true) true Tryd.f6.params.toList args.toList ds p := hA0
  rw [Tryd.params6] at hA hval
  obtain ⟨v0, v1, v2, v3, d0, d1, d2, d3, p0, p1, p2, p3, rfl, rfl, rfl, h0, h1, h2, h3⟩ := trodAll_four hA
  obtain ⟨rfl, rfl⟩ := trodVars_none hV
  obtain ⟨s0, g0, t0, m0, k0, rfl⟩ := word_of (hval 0 23 v0 rfl rfl) h0
  obtain ⟨s1, g1, t1, m1, k1, rfl⟩ := word_of (hval 1 23 v1 rfl rfl) h1
  obtain ⟨s2, g2, t2, m2, k2, rfl⟩ := word_of (hval 2 23 v2 rfl rfl) h2
  obtain ⟨n3, rfl, rfl, rfl, _⟩ := open_int Tryd.underlying3 (hval 3 3 v3 rfl rfl) h3
  obtain ⟨a, b, L⟩ := env_of hL hsh
  refine (same_any a b s0 g0 t0 m0 k0 s1 g1 t1 m1 k1 s2 g2 t2 m2 k2 n3 W L ).mono fun e W' h => ?_
  obtain ⟨he, hb⟩ := h
  exact ⟨_, he, law_post (H := H) (enc := enc) laidOut' (f := Tryd.f6) (s := Rows.glyphSameSpec) rfl Tryd.underlying4 (by decide +kernel) rfl hW' rfl hb⟩

theorem glyphSame_holds : Rows.GlyphSameSaid :=
  OpenClaim.holds_of_wide 6 Tryd.f6 rfl rfl rfl rfl rfl rfl rfl ⟨rfl, rfl, rfl, rfl, rfl⟩ rfl rfl rfl rfl rfl (by kernel_rfl) Tryd.func6 (by kernel_rfl)
    (of_decide_eq_true (by kernel_rfl)) (by unfold Func.isWrapper; first | (rw [if_pos (by decide +kernel)]; kernel_rfl) | (rw [if_neg (by decide +kernel)]; exact ⟨rfl, rfl⟩))
    (fun os started H enc _ => glyphSame_lifted os started H enc)

set_option maxRecDepth 100000 in
theorem glyphSame_card_holds : Rows.GlyphSameCardSaid :=
  Claim7.holds_tied_plain_at .later [] [.data, .data, .data, .data, .sentinel, .sentinel, .sentinel, .sentinel, .pinned] true (true, "97abfac25a9a6494cf1274fe6921a598b429b09ac983b9346cd422786d1eb657") true
    glyphSame_holds (fun _ h => by cases h) (by kernel_rfl) (fun _ h => by cases h) glyphSame_row_tie rfl ⟨rfl, rfl⟩ (by kernel_rfl) rfl
    (fun f fn hf hfn => by
      obtain rfl : f = 6 := Option.some.inj ((show Tryd.prog.funcNamed "sexton/sextonlaw02.GlyphSame" = some 6 by kernel_rfl).symm.trans hf) |>.symm
      obtain rfl : fn = Tryd.f6 := (Option.some.inj (Tryd.func6.symm.trans hfn)).symm
      exact ⟨by kernel_rfl, fun j t ht => by
        rw [Tryd.params6] at ht
        have hm : t ∈ [23, 23, 23, 3] := by simpa using Array.mem_of_getElem? ht
        have hall : ([23, 23, 23, 3].all fun u => !Tryd.prog.wantsStandIn u) = true := by kernel_rfl
        exact (show Tryd.prog.wantsStandIn t = false by simpa using List.all_eq_true.1 hall t hm)⟩)
    (by kernel_rfl)
#print axioms glyphSame_card_holds
end Go.Proofs.YtjkgglihpkkieaaDoor
