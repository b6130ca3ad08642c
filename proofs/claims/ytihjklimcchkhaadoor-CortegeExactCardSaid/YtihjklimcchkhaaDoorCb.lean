/- cortege: ask, end, load, store, protect, swap, the roots. A template (fill.py). -/
import Derived.Test.YtihjklimcchkhaaDoorCa
namespace Go.Proofs.YtihjklimcchkhaaDoor.Co
open Go.RowKit Go.Extern.Stop Go.Stop Go.Extern Go.Sort
theorem Field_at (s g t n : Int) (m : Bool) (f : Int) (w : World) :
    Calls Tryd.prog 21 #[.agg #[.int .i64 s, .int .i64 g, .int .i64 t, .int .i64 n, .bool m], .int .i64 f] w fun e w' => e = .returned (.agg #[.int .i64 s, .int .i64 g, .int .i64 f]) ∧ Below w.heap.size w w' := by
  go_enter Tryd.func21, Tryd.ntmps21
  go_wp2
  exact bodyPost_ret (v := .agg #[.int .i64 s, .int .i64 g, .int .i64 f]) (by simp [results, Tryd.results21, go_sem]) rfl ⟨rfl, below_alloc (below_alloc (Below.refl _ _) _) _⟩
theorem Num_at (n : Int) (w : World) : Calls Tryd.prog 22 #[.int .i64 n] w fun e w' => e = .returned (.agg #[.int .i64 0, .int .i64 0, .int .i64 0, .int .i64 n, .bool false]) ∧ Below w.heap.size w w' := Num_any n w
theorem To_at (s g t n : Int) (m : Bool) (s' g' t' n' : Int) (m' : Bool) (w : World) :
    Calls Tryd.prog 36 #[.agg #[.int .i64 s, .int .i64 g, .int .i64 t, .int .i64 n, .bool m], .agg #[.int .i64 s', .int .i64 g', .int .i64 t', .int .i64 n', .bool m']] w fun e w' => e = .returned (.agg #[.int .i64 s', .int .i64 g', .int .i64 (wrap64 (t + 1)), .int .i64 0, .bool false]) ∧ Below w.heap.size w w' := To_any s g t n m s' g' t' n' m' w
theorem Nil_is (s g t n : Int) (m q : Bool) (hq : (s == 0) = q) (w : World) : Calls Tryd.prog 39 #[.agg #[.int .i64 s, .int .i64 g, .int .i64 t, .int .i64 n, .bool m]] w fun e w' => e = .returned (.bool q) ∧ Below w.heap.size w w' := hq ▸ Nil_any s g t n m w
section
variable {w w' : World} {b : Nat} {j j' : Jb}
theorem box_cac (w : World) (c : Ca) : BlkW (w.alloc (.cells (cac c).toArray 41)) w.heap.size 41 (cac c).toArray := BlkW.new _ _ _
set_option maxRecDepth 100000 in
set_option maxHeartbeats 1000000 in
theorem jask_any (h : JAt w b j) (c : Ca) (d : Int) :
    Calls Tryd.prog 18 #[.pointer (some ⟨b, 0, none⟩), cav c, .int .i64 d] w (JLeaf w b (j.ask c d)) := by
  have hb := below_alloc (Below.refl w.heap.size w) (.cells (cac c).toArray 41)
  have HR := Lib.hid (h.below hb)
  have HB := Lib.hid hb
  have HX := Lib.hid (box_cac w c)
  clear h hb
  show Calls _ _ #[_, .agg (cac c).toArray, _] _ _
  go_enter Tryd.func18, Tryd.ntmps18
  go_upto_region 1 with fail
  generalize w.alloc (.cells (cac c).toArray 41) = W at HR HX HB ⊢
  have hX := HX.out
  have HRG := Lib.hid (show W.rangeAt w.heap.size 0 (cac c) from fun i v hv => by rw [Nat.zero_add]; exact (BlkW.cell hX i).trans (by rw [List.getElem?_toArray]; exact hv))
  have hz := BlkW.lt HR.out
  clear hX HX
  generalize w.heap.size = g at HRG ⊢
  generalize hG : Value.agg (cac c).toArray = G
  have HG := Lib.hid hG
  clear hG
  go_wp2_with (first
    | (refine wpList_load_mid rfl 41 (.tmp 4) rfl g 0 rfl (cac c) _ HRG.out Tryd.underlying41 rfl infoCl ?_; rw [HG.out])
    | (refine wp_store_j HR.out rfl 41 (.tmp 11) (.tmp 8) rfl 0 (cac c) (by rfl) (HG.out.symm) (Nat.le_of_ble_eq_true rfl) infoCl (cac_one _) { j with ca := c } (by kernel_rfl) ?_; intro W1 R1 O1 hz1; have c18 := R1.done; have f18 := R1.frozen 18; have R1 := Lib.hid R1; have O1 := Lib.hid O1))
  go_end0
  exact ⟨rfl, Lib.hid (R1.out.set 18 (.int .i64 d) (by kernel_rfl)), Lib.hid ((Only.of_below HB.out).trans ((show Off (fun i => i = b) W _ from O1.out).set (.inl rfl) 18 _))⟩
set_option maxRecDepth 100000 in
set_option maxHeartbeats 1000000 in
theorem jload_any (h : JAt w b j) (x : Int × Int × Int) (d : Int) :
    Calls Tryd.prog 26 #[.pointer (some ⟨b, 0, none⟩), adv x, .int .i64 d] w (JLeaf w b (j.ask (cLoad x) d)) := by
  have HR := Lib.hid (h.below (below_alloc (Below.refl _ _) (.cells #[.int .i64 x.1, .int .i64 x.2.1, .int .i64 x.2.2] 35)))
  clear h
  unfold adv
  go_enter Tryd.func26, Tryd.ntmps26
  go_wp2_with fail
  refine (jask_any HR.out (cLoad x) d).mono ?_
  rintro e w1 ⟨rfl, h1, h2⟩
  go_wp2
  go_end0
  exact ⟨rfl, h1, Lib.hid ((Only.of_below (below_alloc (Below.refl _ _) _)).trans h2.out)⟩
set_option maxRecDepth 100000 in
set_option maxHeartbeats 1000000 in
theorem jprotect_any (h : JAt w b j) (x : Int × Int × Int) (i d : Int) :
    Calls Tryd.prog 29 #[.pointer (some ⟨b, 0, none⟩), adv x, .int .i64 i, .int .i64 d] w (JLeaf w b (j.ask (cProtect x i) d)) := by
  have HR := Lib.hid (h.below (below_alloc (Below.refl _ _) (.cells #[.int .i64 x.1, .int .i64 x.2.1, .int .i64 x.2.2] 35)))
  clear h
  unfold adv
  go_enter Tryd.func29, Tryd.ntmps29
  go_wp2_with fail
  refine (jask_any HR.out (cProtect x i) d).mono ?_
  rintro e w1 ⟨rfl, h1, h2⟩
  go_wp2
  go_end0
  exact ⟨rfl, h1, Lib.hid ((Only.of_below (below_alloc (Below.refl _ _) _)).trans h2.out)⟩
set_option maxRecDepth 100000 in
set_option maxHeartbeats 1000000 in
theorem jstore_any (h : JAt w b j) (x : Int × Int × Int) (v : Wd) (d : Int) :
    Calls Tryd.prog 20 #[.pointer (some ⟨b, 0, none⟩), adv x, wv v, .int .i64 d] w (JLeaf w b (j.ask (cStore x v) d)) := by
  have HR := Lib.hid (h.below (below_alloc (below_alloc (Below.refl _ _) (.cells #[.int .i64 x.1, .int .i64 x.2.1, .int .i64 x.2.2] 35)) (.cells #[.int .i64 v.slot, .int .i64 v.gen, .int .i64 v.tag, .int .i64 v.num, .bool v.mark] 37)))
  clear h
  unfold adv wv
  go_enter Tryd.func20, Tryd.ntmps20
  go_wp2_with fail
  refine (jask_any HR.out (cStore x v) d).mono ?_
  rintro e w1 ⟨rfl, h1, h2⟩
  go_wp2
  go_end0
  exact ⟨rfl, h1, Lib.hid ((Only.of_below (below_alloc (below_alloc (Below.refl _ _) _) _)).trans h2.out)⟩
set_option maxRecDepth 100000 in
set_option maxHeartbeats 1000000 in
theorem jend_any (h : JAt w b j) (x y : Int) :
    Calls Tryd.prog 19 #[.pointer (some ⟨b, 0, none⟩), .int .i64 x, .int .i64 y] w (JLeaf w b (j.end_ x y)) := by
  have HR := Lib.hid h
  have hz := BlkW.lt h
  clear h
  go_enter Tryd.func19, Tryd.ntmps19
  go_wp2_with (refine wp_store_j HR.out rfl 49 (.tmp 8) (.tmp 7) rfl 0 (jsc (Jb.new j.op)) (by rfl) (by rfl) (Nat.le_of_ble_eq_true rfl) infoJs (jsc_one _) (Jb.new j.op) (by kernel_rfl) ?_; intro W1 R1 O1 hz1; have R1 := Lib.hid R1; have O1 := Lib.hid O1)
  refine (jask_any R1.out (cDone x y) 13).mono ?_
  rintro e w1 ⟨rfl, h1, h2⟩
  go_wp2
  go_end0
  exact ⟨rfl, h1, Lib.hid (O1.out.trans h2.out)⟩
theorem root_is (n : Int) (hn : 0 ≤ n ∧ n < 24) (w : World) : Calls Tryd.prog 24 #[.int .i64 n] w fun e w' => e = .returned (.agg #[.int .i64 0, .int .i64 0, .int .i64 n]) ∧ Below w.heap.size w w' := by
  have HN := Lib.hid hn
  clear hn
  go_enter Tryd.func24, Tryd.ntmps24
  go_wp2_with fail
  refine (Bd.Root_yes n HN.out _).mono ?_
  rintro e w1 ⟨rfl, hb⟩
  obtain ⟨⟨c0, c1, c2⟩, ⟨f0, f1, f2⟩, hz, hB⟩ := Bd.box3 hb
  have HB := Lib.hid hB
  clear hb hB
  unfold Bd.ad
  go_wp2
  exact bodyPost_ret (v := .agg #[.int .i64 0, .int .i64 0, .int .i64 n]) (by simp [results, Tryd.results24, go_sem, c0, c1, c2, hz]) rfl ⟨rfl, below_alloc (Bd.set3 HB.out _ _ _) _⟩
theorem root0 (w : World) : Calls Tryd.prog 24 #[.int .i64 0] w fun e w' => e = .returned (.agg #[.int .i64 0, .int .i64 0, .int .i64 0]) ∧ Below w.heap.size w w' := root_is 0 (by decide) w
theorem root1 (w : World) : Calls Tryd.prog 24 #[.int .i64 1] w fun e w' => e = .returned (.agg #[.int .i64 0, .int .i64 0, .int .i64 1]) ∧ Below w.heap.size w w' := root_is 1 (by decide) w
end
end Go.Proofs.YtihjklimcchkhaaDoor.Co
