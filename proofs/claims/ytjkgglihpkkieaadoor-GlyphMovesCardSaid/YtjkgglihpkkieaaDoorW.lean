/- awake: the document's examples. -/
import Derived.Test.YtjkgglihpkkieaaDoorV
namespace Go.Proofs.YtjkgglihpkkieaaDoor
open Go.RowKit Go.Extern.Stop Go.Stop Go.Extern

theorem Is_same {w : World} {a : Addr} {ps : List Int} {v : Value} (h : Ch w (.iface 117 (.pointer (some a))) ps v) :
    Calls Tryd.prog 13 #[v, .iface 117 (.pointer (some a))] w fun e w' => e = .returned (.bool true) ∧ w = w' := by
  have := (IsC.chain h (fun hne => absurd rfl hne)).Is
  simpa using this

/-! ### awake: the document's examples -/
def wA : Wd := ⟨5, 1, 10, -2, false⟩
def wB : Wd := ⟨0, 0, 7, 0, true⟩
theorem txt_wA : txt wA = [110, 46, 53, 46, 49, 46, 49, 48, 46, 45, 50] := by
  simp [txt, wA, Lib.itoa, Lib.decDigits_one, Lib.decDigits_two]
theorem txt_wB : txtB wB = ⟨#[109, 46, 48, 46, 48, 46, 55, 46, 48]⟩ := by
  apply ba_ext
  show txt wB = _
  simp [txt, wB, Lib.itoa, Lib.decDigits_one]
theorem wA_good : wA.Good := by decide
theorem wB_good : wB.Good := by decide
theorem no_word : ∀ d : Wd, d.Good → txtB d ≠ ⟨#[109, 46, 48, 46, 48, 46, 48, 55, 46, 48]⟩ := by
  intro d hd e
  have h := of_split (s := ⟨#[109, 46, 48, 46, 48, 46, 48, 55, 46, 48]⟩) (l := [[109], [48], [48], [48, 55], [48]]) (by
    show _ = Lib.split [109, 46, 48, 46, 48, 46, 48, 55, 46, 48] [46]
    rw [show ([109, 46, 48, 46, 48, 46, 48, 55, 46, 48] : List UInt8) = [109] ++ 46 :: ([48] ++ 46 :: ([48] ++ 46 :: ([48, 55] ++ 46 :: [48]))) from rfl,
      split_more (by decide), split_more (by decide), split_more (by decide), split_more (by decide), split_last (by decide)]) e
  simp only [List.cons.injEq, and_true] at h
  have ht := h.2.2.2.1
  have h1 := atoi_itoa d.tag
  rw [← ht] at h1
  have h2 : d.tag = 7 := by
    have : Lib.atoi [48, 55] = some 7 := by decide
    rw [this] at h1; exact (Option.some.inj h1).symm
  rw [h2] at ht
  have h3 : Lib.itoa 7 = [55] := by simp [Lib.itoa, Lib.decDigits_one]
  rw [h3] at ht
  exact absurd ht (by decide)

set_option maxRecDepth 100000 in
set_option maxHeartbeats 1000000 in
theorem awake_true (a b : Addr) (w : World) (L : Env w a b) : Calls Tryd.prog 8 #[] w (True1 w) := by
  have HL := Lib.hid L
  have P1 : Hid (∀ w, Env w a b → Calls Tryd.prog 9 #[.agg #[.int .i64 5, .int .i64 1, .int .i64 10, .int .i64 (-2), .bool false]] w (Pck w wA)) := Lib.hid (Pack_good wA wA_good a b)
  have P2 := Lib.hid (Unpack_yes wB wB_good a b)
  rw [txt_wB] at P2
  have P3 := Lib.hid (Unpack_no _ no_word a b)
  have T1 : Hid ((txtB wA).toList = [110, 46, 53, 46, 49, 46, 49, 48, 46, 45, 50]) := by show _ = _; rw [ByteArray.toList_eq]; exact txt_wA
  clear L
  have W10 : wrap64 10 = 10 := IntWalk.wrap64_in 10 ⟨by omega, by omega⟩
  go_enter Tryd.func8, Tryd.ntmps8
  go_wp2_with fail
  refine (To_any _ _ _ _ _ _ _ _ _ _ _).mono ?_
  rintro e w1 ⟨rfl, hb⟩
  have HB1 := Lib.hid hb
  clear hb
  go_wp2_with fail
  refine (P1.out _ (HL.out.keep (below_alloc HB1.out _))).mono ?_
  rintro e w2 ⟨rfl, hb⟩
  have HB2 := Lib.hid (below_trans (below_alloc HB1.out _) hb)
  clear hb
  go_wp2_with fail
  refine (P2.out _ (HL.out.keep HB2.out)).mono ?_
  rintro e w3 ⟨rfl, hb⟩
  have HB3 := Lib.hid (below_trans HB2.out hb)
  clear hb
  go_wp2_with fail
  refine (P3.out _ (HL.out.keep (below_alloc HB3.out _))).mono ?_
  rintro e w4 ⟨u, rfl, hc, hb⟩
  have HC4 := Lib.hid hc
  have HV4 := Lib.hid ((BlkW.new w3 23 #[.int .i64 0, .int .i64 0, .int .i64 7, .int .i64 0, .bool true]).below hb)
  have HB4 := Lib.hid (below_trans (below_alloc HB3.out _) hb)
  clear hb hc
  have v0 := HV4.out.cell 0
  have v1 := HV4.out.cell 1
  have v2 := HV4.out.cell 2
  have v3 := HV4.out.cell 3
  have v4 := HV4.out.cell 4
  simp only [List.getElem?_toArray, List.getElem?_cons_succ, List.getElem?_cons_zero] at v0 v1 v2 v3 v4
  have hz4 := HV4.out.lt
  have lw := (HL.out.keep HB4.out).word
  have lz := lt_of_cell lw
  have T1' := T1.out
  have T2 : (txtB wA).toList = [110, 46, 53, 46, 49, 46, 49, 48, 46, 45, 50] → ((txtB wA).toList == [110, 46, 53, 46, 49, 46, 49, 48, 46, 45, 50]) = true := fun h => by rw [h]; rfl
  have T3 := T2 T1'
  clear T1' T2
  have q1 := eq23
  have q2 := noHeld
  have q3 := noGuard
  go_wp2_with fail
  refine (Is_same (HC4.out.keep (below_alloc (Below.refl _ _) _))).mono ?_
  rintro e w5 ⟨rfl, rfl⟩
  go_wp2_with fail
  refine (Nil_any _ _ _ _ _ _).mono ?_
  rintro e w6 ⟨rfl, hb⟩
  have HB6 := Lib.hid (below_trans (below_alloc HB4.out _) hb)
  clear hb
  go_wp2
  go_ret
  exact ⟨rfl, HB6.out⟩
end Go.Proofs.YtjkgglihpkkieaaDoor
