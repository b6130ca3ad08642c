/- cortege: the reference's small functions. A template (made by gen_XCr.py). -/
import Derived.Test.YtihjklimcchkhaaDoorCc
namespace Go.Proofs.YtihjklimcchkhaaDoor.Co
open Go.RowKit Go.Extern.Stop Go.Stop Go.Extern Go.Sort
section
variable {w w' : World} {b : Nat} {q : Nat} {u u' : Rf} {c : Ca}
/-- Amid a call of the reference's: the job's block, the answer's box. -/
structure Ur (w W : World) (b q : Nat) (u : Rf) : Prop where
  hu : UAt W b u
  hq : BlkW W q 41 (cac za).toArray
  off : Only b w W
  fresh : w.heap.size ≤ q
structure Ud (w W : World) (b q : Nat) (u : Rf) (c : Ca) : Prop where
  hu : UAt W b u
  hq : BlkW W q 41 (cac c).toArray
  off : Only b w W
/-- What a call of the reference's leaves. -/
def UPost (w : World) (b : Nat) (u : Rf) (c : Ca) (e : Ending) (w' : World) : Prop := e = .returned (cav c) ∧ Hid (UAt w' b u) ∧ Hid (Only b w w')
theorem Ur.ne (h : Ur w w' b q u) : q ≠ b := BlkW.ne_ h.hq h.hu (by decide)
theorem Ur.below {W : World} (h : Ur w w' b q u) (hb : Below w'.heap.size w' W) : Ur w W b q u := ⟨h.hu.below hb, h.hq.below hb, h.off.trans (Only.of_below hb), h.fresh⟩
theorem Ur.puts (h : Ur w w' b q u) (o : Nat) (vs : List Value) (e : putL (uc u) o vs = uc u') : Ur w (w'.setCells b o vs) b q u' := by
  have ho : Off (fun j => j = b) w' (w'.setCells b o vs) := Off.sets (K := fun j => j = b) (.inl rfl) _ o (Off.refl _ w')
  exact ⟨h.hu.puts o vs e, ho.blk h.hq h.ne, h.off.trans ho, h.fresh⟩
theorem Ur.set (h : Ur w w' b q u) (o : Nat) (v : Value) (e : (uc u).set o v = uc u') : Ur w (w'.setCell ⟨b, o, none⟩ v) b q u' := by
  have ho : Off (fun j => j = b) w' (w'.setCell ⟨b, o, none⟩ v) := (show Off (fun i => i = b) w' _ from Off.refl _ w').set (.inl rfl) o v
  exact ⟨h.hu.set o v e, ho.blk h.hq h.ne, h.off.trans ho, h.fresh⟩
theorem Ur.line (h : Ur w w' b q u) (l : Int) : Ur w (w'.setCell ⟨b, 4, none⟩ (.int .i64 l)) b q (u.at_ l) := h.set 4 _ (by kernel_rfl)
theorem Ur.after {W : World} (h : Ur w w' b q u) (h1 : UAt W b u') (h2 : Only b w' W) : Ur w W b q u' := ⟨h1, h2.blk h.hq h.ne, h.off.trans h2, h.fresh⟩
theorem Ur.fin {W : World} (h : Ur w w' b q u) (k1 : BlkW W q 41 (cac c).toArray) (k2 : Off (fun j => j = q) w' W) : Ud w W b q u c :=
  ⟨k2.blk h.hu (fun e => h.ne e.symm), k1, Off.trans h.off (Off.refl (fun j => j = b) w') (fun _ _ e => e) |>.trans k2 (fun i hi e => by subst e; exact absurd hi (by have := h.fresh; omega))⟩
theorem wp_store_c {ops : Array Oper} {rest : List Oper} {op : Oper} {a : Act} {W : World} {Q : Exit → Act → World → Prop} (hq : BlkW W q 41 (cac za).toArray) (hgd : op.guard = none) (px py : Operand) (hop : op.op = .store 41 px py)
    (hx : a.eval px = .pointer (some ⟨q, 0, none⟩)) (c : Ca) (hy : a.eval py = .agg (cac c).toArray)
    (k : ∀ w', BlkW w' q 41 (cac c).toArray → Off (fun j => j = q) W w' → wpList Tryd.prog ops Q rest (a.put op.dst undef) w') : wpList Tryd.prog ops Q (op :: rest) a W := by
  refine wpList_store_mid hgd 41 px py hop q 0 (cac c).toArray hx hy (there_of_blk hq 0 18 (by decide)) (show (Tryd.prog.info? 41).map (·.size) = some (cac c).toArray.size from infoCl) (cac_one c) ?_
  have h1 : BlkW (W.setCells q 0 (cac c)) q 41 (cac c).toArray := by
    have h1 := blk_puts (cac c) 0 hq
    rwa [show putL (cac za) 0 (cac c) = cac c from by kernel_rfl] at h1
  exact k _ h1 (Off.sets (K := fun j => j = q) (.inl rfl) _ 0 (Off.refl _ W))
theorem step_store_c {ops : Array Oper} {op : Oper} {a : Act} {W : World} {K : Act → World → Prop} {Q : Exit → Act → World → Prop} {E : Prop} (hq : BlkW W q 41 (cac za).toArray) (hgd : op.guard = none) (px py : Operand) (hop : op.op = .store 41 px py)
    (hx : a.eval px = .pointer (some ⟨q, 0, none⟩)) (c : Ca) (hy : a.eval py = .agg (cac c).toArray)
    (k : ∀ w', BlkW w' q 41 (cac c).toArray → Off (fun j => j = q) W w' → K (a.put op.dst undef) w') : if Region.wanted op (yielded ops a.tmps) = true then Oper.wp Tryd.prog op a W K Q else E := by
  have hw : Region.wanted op (yielded ops a.tmps) = true := by simp [Region.wanted, hgd]
  rw [if_pos hw]
  refine wp_store_mid 41 px py hop q 0 (cac c).toArray hx hy (there_of_blk hq 0 18 (by decide)) (show (Tryd.prog.info? 41).map (·.size) = some (cac c).toArray.size from infoCl) (cac_one c) ?_
  have h1 : BlkW (W.setCells q 0 (cac c)) q 41 (cac c).toArray := by
    have h1 := blk_puts (cac c) 0 hq
    rwa [show putL (cac za) 0 (cac c) = cac c from by kernel_rfl] at h1
  exact k _ h1 (Off.sets (K := fun j => j = q) (.inl rfl) _ 0 (Off.refl _ W))
theorem rans_load {W : World} (h : BlkW W q 41 (cac c).toArray) : (loadVar 41 ⟨q, 0, none⟩).run Tryd.prog W = .ok (cav c) W := by
  have hr : W.rangeAt q 0 (cac c) := fun j v hv => by rw [Nat.zero_add]; exact (BlkW.cell h j).trans (by rw [List.getElem?_toArray]; exact hv)
  exact run_loadVar_mid W q 0 41 (cac c) _ hr Tryd.underlying41 rfl infoCl
theorem rresults {P : Program} {fn : Func} {a : Tmp} {t : TypeId} (h : fn.results = #[.cell a t]) (tmps : Array Value) {w : World} {v : Value} (ht : tmps.getD a undef = .pointer (some ⟨q, 0, none⟩)) (hl : (loadVar t ⟨q, 0, none⟩).run P w = .ok v w) : (results fn tmps).run P w = .ok v w := by
  have e : tmps[a]?.getD undef = .pointer (some ⟨q, 0, none⟩) := by rw [← ht]; simp
  simp [results, h, e, asAddr, hl]
theorem infoWd : (Tryd.prog.info? 37).map (·.size) = some 5 := by kernel_rfl
theorem infoAd : (Tryd.prog.info? 35).map (·.size) = some 3 := by kernel_rfl
theorem blk_range {W : World} {g : Nat} {t : TypeId} {l : List Value} (h : BlkW W g t l.toArray) (o : Nat) (cs : List Value) (e : (l.drop o).take cs.length = cs) : W.rangeAt g o cs := fun j v hv => by
  have hj : j < cs.length := (List.getElem?_eq_some_iff.1 hv).1
  rw [BlkW.cell h, List.getElem?_toArray]
  rw [← e, List.getElem?_take_of_lt (by simpa using hj), List.getElem?_drop] at hv
  exact hv
/-- A store into the reference's job. -/
theorem wp_store_u {ops : Array Oper} {rest : List Oper} {op : Oper} {a : Act} {W : World} {Q : Exit → Act → World → Prop} (h : Ur w W b q u) (hgd : op.guard = none) (ty : TypeId) (x y : Operand) (ho : op.op = .store ty x y)
    (o : Nat) (cs : List Value) (hx : a.eval x = .pointer (some ⟨b, o, none⟩)) (hy : a.eval y = .agg cs.toArray) (hn : o + cs.length ≤ 44) (hi : (Tryd.prog.info? ty).map (·.size) = some cs.length) (h1 : cs.toArray.all (·.oneCell') = true)
    (u' : Rf) (e : putL (uc u) o cs = uc u')
    (k : ∀ w', Ur w w' b q u' → wpList Tryd.prog ops Q rest (a.put op.dst undef) w') : wpList Tryd.prog ops Q (op :: rest) a W :=
  wpList_store_mid hgd ty x y ho b o cs.toArray hx hy (by simpa using h.hu.there o cs.length hn) (by simpa using hi) h1 (k _ (h.puts o cs e))
theorem below_low {B : Nat} {a x y : World} (h : Below B a x) (k : Below B x y) : Below B a y := h.trans k
theorem rTo_at (s g t n : Int) (m : Bool) (s' g' t' n' : Int) (m' : Bool) (w : World) :
    Calls Tryd.prog 41 #[.agg #[.int .i64 s, .int .i64 g, .int .i64 t, .int .i64 n, .bool m], .agg #[.int .i64 s', .int .i64 g', .int .i64 t', .int .i64 n', .bool m']] w fun e w' => e = .returned (.agg #[.int .i64 s', .int .i64 g', .int .i64 (wrap64 (t + 1)), .int .i64 0, .bool false]) ∧ Below w.heap.size w w' := by
  go_enter Tryd.func41, Tryd.ntmps41
  go_wp2
  exact bodyPost_ret (v := .agg #[.int .i64 s', .int .i64 g', .int .i64 (wrap64 (t + 1)), .int .i64 0, .bool false]) (by simp [results, Tryd.results41, go_sem]) rfl ⟨rfl, below_alloc (below_alloc (below_alloc (Below.refl _ _) _) _) _⟩
theorem rSame_is {a c : Wd} {q : Bool} (h : sameW a c = q) (w : World) : Calls Tryd.prog 34 #[.agg #[.int .i64 a.slot, .int .i64 a.gen, .int .i64 a.tag, .int .i64 a.num, .bool a.mark], .agg #[.int .i64 c.slot, .int .i64 c.gen, .int .i64 c.tag, .int .i64 c.num, .bool c.mark]] w fun e w' => e = .returned (.bool q) ∧ Below w.heap.size w w' := by
  subst h
  have k1 := noHeld
  have k2 := noGuard
  have k3 := eq23
  go_enter Tryd.func34, Tryd.ntmps34
  go_wp2
  go_ret
  exact ⟨rfl, below_alloc (below_alloc (Below.refl _ _) _) _⟩
theorem at_is (s g t n : Int) (m : Bool) (f : Int) (w : World) :
    Calls Tryd.prog 32 #[.agg #[.int .i64 s, .int .i64 g, .int .i64 t, .int .i64 n, .bool m], .int .i64 f] w fun e w' => e = .returned (.agg #[.int .i64 s, .int .i64 g, .int .i64 f]) ∧ Below w.heap.size w w' := by
  go_enter Tryd.func32, Tryd.ntmps32
  go_wp2
  exact bodyPost_ret (v := .agg #[.int .i64 s, .int .i64 g, .int .i64 f]) (by simp [results, Tryd.results32, go_sem]) rfl ⟨rfl, below_alloc (below_alloc (Below.refl _ _) _) _⟩
theorem rroot_is (n : Int) (w : World) : Calls Tryd.prog 33 #[.int .i64 n] w fun e w' => e = .returned (.agg #[.int .i64 0, .int .i64 0, .int .i64 n]) ∧ Below w.heap.size w w' := by
  go_enter Tryd.func33, Tryd.ntmps33
  go_wp2
  exact bodyPost_ret (v := .agg #[.int .i64 0, .int .i64 0, .int .i64 n]) (by simp [results, Tryd.results33, go_sem]) rfl ⟨rfl, below_alloc (Below.refl _ _) _⟩
set_option maxRecDepth 100000 in
set_option maxHeartbeats 1000000 in
theorem rswap_is (x : Int × Int × Int) (s r : Wd) (w : World) :
    Calls Tryd.prog 35 #[adv x, wv s, wv r] w fun e w' => e = .returned (cav (cSwap x s r)) ∧ Below w.heap.size w w' := by
  have hb3 := below_alloc (below_alloc (below_alloc (Below.refl w.heap.size w) (.cells #[.int .i64 x.1, .int .i64 x.2.1, .int .i64 x.2.2] 35)) (.cells #[.int .i64 s.slot, .int .i64 s.gen, .int .i64 s.tag, .int .i64 s.num, .bool s.mark] 37)) (.cells #[.int .i64 r.slot, .int .i64 r.gen, .int .i64 r.tag, .int .i64 r.num, .bool r.mark] 37)
  have HB := Lib.hid (below_alloc hb3 (.cells (cac za).toArray 41))
  obtain ⟨hA, hS, hR⟩ := blk3 w #[.int .i64 x.1, .int .i64 x.2.1, .int .i64 x.2.2] #[.int .i64 s.slot, .int .i64 s.gen, .int .i64 s.tag, .int .i64 s.num, .bool s.mark] #[.int .i64 r.slot, .int .i64 r.gen, .int .i64 r.tag, .int .i64 r.num, .bool r.mark] 35 37 37
  have hQ := BlkW.new (((w.alloc (.cells #[.int .i64 x.1, .int .i64 x.2.1, .int .i64 x.2.2] 35)).alloc (.cells #[.int .i64 s.slot, .int .i64 s.gen, .int .i64 s.tag, .int .i64 s.num, .bool s.mark] 37)).alloc (.cells #[.int .i64 r.slot, .int .i64 r.gen, .int .i64 r.tag, .int .i64 r.num, .bool r.mark] 37)) 41 (cac za).toArray
  replace hA := hA.alloc (.cells (cac za).toArray 41)
  replace hS := hS.alloc (.cells (cac za).toArray 41)
  replace hR := hR.alloc (.cells (cac za).toArray 41)
  rw [World.size_alloc, World.size_alloc, World.size_alloc] at hQ
  clear hb3
  unfold adv wv
  go_enter Tryd.func35, Tryd.ntmps35
  go_upto_region 1 with fail
  show Code.wp _ _ _ _ ((((w.alloc (.cells #[.int .i64 x.1, .int .i64 x.2.1, .int .i64 x.2.2] 35)).alloc (.cells #[.int .i64 s.slot, .int .i64 s.gen, .int .i64 s.tag, .int .i64 s.num, .bool s.mark] 37)).alloc (.cells #[.int .i64 r.slot, .int .i64 r.gen, .int .i64 r.tag, .int .i64 r.num, .bool r.mark] 37)).alloc (.cells (cac za).toArray 41))
  generalize (((w.alloc (.cells #[.int .i64 x.1, .int .i64 x.2.1, .int .i64 x.2.2] 35)).alloc (.cells #[.int .i64 s.slot, .int .i64 s.gen, .int .i64 s.tag, .int .i64 s.num, .bool s.mark] 37)).alloc (.cells #[.int .i64 r.slot, .int .i64 r.gen, .int .i64 r.tag, .int .i64 r.num, .bool r.mark] 37)).alloc (.cells (cac za).toArray 41) = W at HB hA hS hR hQ ⊢
  have HN := Lib.hid hQ
  have HG : Hid (w.heap.size ≤ w.heap.size + 1 + 1 + 1) := Lib.hid (by omega)
  have hne : w.heap.size ≠ w.heap.size + 1 + 1 + 1 ∧ w.heap.size + 1 ≠ w.heap.size + 1 + 1 + 1 ∧ w.heap.size + 1 + 1 ≠ w.heap.size + 1 + 1 + 1 := by omega
  clear hQ
  obtain ⟨g, hg⟩ : ∃ g, g = w.heap.size := ⟨_, rfl⟩
  rw [← hg] at hA hS hR hne HN ⊢
  have HGE := Lib.hid hg
  clear hg
  refine wp_region_held (S := fun W' => BlkW W' g 35 ([.int .i64 x.1, .int .i64 x.2.1, .int .i64 x.2.2] : List Value).toArray ∧ BlkW W' (g + 1) 37 (wc s).toArray ∧ BlkW W' (g + 1 + 1) 37 (wc r).toArray) (by kernel_rfl) ?_
  have hS : (fun W' => BlkW W' g 35 ([.int .i64 x.1, .int .i64 x.2.1, .int .i64 x.2.2] : List Value).toArray ∧ BlkW W' (g + 1) 37 (wc s).toArray ∧ BlkW W' (g + 1 + 1) 37 (wc r).toArray) W.drew := ⟨hA.below (Below.refl _ _).drew, hS.below (Below.refl _ _).drew, hR.below (Below.refl _ _).drew⟩
  replace HN := Lib.hid (HN.out.below (Below.refl _ _).drew)
  replace HB := Lib.hid (below_low HB.out ((Below.refl W.heap.size W).drew.mono HB.out.size))
  clear hA hR
  show wpAnyH _ _ _ _ _ 7 #[false, false, false, false, false, false, false] _ W.drew
  generalize W.drew = W at HN hS HB ⊢
  refine wpAnyH_take (i := 0) (v := .agg ([.int .i64 x.1, .int .i64 x.2.1, .int .i64 x.2.2]).toArray) rfl (by kernel_rfl) (by kernel_rfl) (by kernel_rfl) (fun _ _ _ h => h) (yieldsIf_load_mid (by rfl) 35 (.tmp 3) rfl g 0 rfl ([.int .i64 x.1, .int .i64 x.2.1, .int .i64 x.2.2]) _ (fun w' h => blk_range h.1 0 _ (by kernel_rfl)) Tryd.underlying35 rfl infoAd) hS ?_
  simp only [Act.put, List.getElem_toArray, List.getElem_cons_succ, List.getElem_cons_zero, List.setIfInBounds_toArray, List.set_cons_zero, List.set_cons_succ]
  refine wpAnyH_take (i := 1) (v := .agg (wc s).toArray) rfl (by kernel_rfl) (by kernel_rfl) (by kernel_rfl) (fun _ _ _ h => h) (yieldsIf_load_mid (by rfl) 37 (.tmp 4) rfl (g + 1) 0 rfl (wc s) _ (fun w' h => blk_range h.2.1 0 _ (by kernel_rfl)) Tryd.underlying37 rfl infoWd) hS ?_
  simp only [Act.put, List.getElem_toArray, List.getElem_cons_succ, List.getElem_cons_zero, List.setIfInBounds_toArray, List.set_cons_zero, List.set_cons_succ]
  refine wpAnyH_take (i := 2) (v := .agg (wc s).toArray) rfl (by kernel_rfl) (by kernel_rfl) (by kernel_rfl) (fun _ _ _ h => h) (yieldsIf_load_mid (by rfl) 37 (.tmp 4) rfl (g + 1) 0 rfl (wc s) _ (fun w' h => blk_range h.2.1 0 _ (by kernel_rfl)) Tryd.underlying37 rfl infoWd) hS ?_
  simp only [Act.put, List.getElem_toArray, List.getElem_cons_succ, List.getElem_cons_zero, List.setIfInBounds_toArray, List.set_cons_zero, List.set_cons_succ]
  refine wpAnyH_take (i := 3) (v := .agg (wc r).toArray) rfl (by kernel_rfl) (by kernel_rfl) (by kernel_rfl) (fun _ _ _ h => h) (yieldsIf_load_mid (by rfl) 37 (.tmp 5) rfl (g + 1 + 1) 0 rfl (wc r) _ (fun w' h => blk_range h.2.2 0 _ (by kernel_rfl)) Tryd.underlying37 rfl infoWd) hS ?_
  simp only [Act.put, List.getElem_toArray, List.getElem_cons_succ, List.getElem_cons_zero, List.setIfInBounds_toArray, List.set_cons_zero, List.set_cons_succ]
  refine wpAnyH_ready (rs := [4]) (by kernel_rfl) (by simp) ?_
  refine AllReadyH.cons rfl (fun K hK => ?_) AllReadyH.nil
  rw [if_pos (by rfl)]
  go_simp
  refine (rTo_at s.slot s.gen s.tag s.num s.mark r.slot r.gen r.tag r.num r.mark _).mono ?_
  rintro e wk ⟨rfl, hb⟩
  replace HN := Lib.hid (HN.out.below hb)
  replace HB := Lib.hid (below_low HB.out (hb.mono HB.out.size))
  refine hK.out _ _ ⟨hS.1.below hb, hS.2.1.below hb, hS.2.2.below hb⟩ (fun _ => ?_)
  replace hS := And.intro (hS.1.below hb) (And.intro (hS.2.1.below hb) (hS.2.2.below hb))
  clear hb hK K
  refine wpAnyH_take (i := 5) (v := .agg (cac (cSwap x s r)).toArray) rfl (by kernel_rfl) (by kernel_rfl) (by kernel_rfl) (fun _ _ _ h => h) (Or.inl ⟨by rfl, fun w' _ => by kernel_rfl⟩) hS ?_
  simp only [Act.put, List.getElem_toArray, List.getElem_cons_succ, List.getElem_cons_zero, List.setIfInBounds_toArray, List.set_cons_zero, List.set_cons_succ]
  refine wpAnyH_ready (rs := [6]) (by kernel_rfl) (by simp) ?_
  refine AllReadyH.cons rfl (fun K hK => ?_) AllReadyH.nil
  refine step_store_c HN.out rfl (.tmp 6) (.tmp 12) rfl (by rfl) (cSwap x s r) (by rfl) ?_
  intro W9 k1 k2
  refine hK.out _ _ ⟨k2.blk hS.1 hne.1, k2.blk hS.2.1 hne.2.1, k2.blk hS.2.2 hne.2.2⟩ (fun _ => ?_)
  refine wpAnyH_done (by kernel_rfl) ?_ _
  clear hK K hS
  go_wp2
  exact bodyPost_ret (v := cav (cSwap x s r)) (rresults rfl _ (by rfl) (rans_load k1)) rfl ⟨rfl, below_low HB.out (k2.below (B := w.heap.size) (fun j e => by rw [e, HGE.out]; exact HG.out) HB.out.size)⟩
set_option maxRecDepth 100000 in
set_option maxHeartbeats 1000000 in
theorem rdone_is (h : UAt w b u) (x y : Int) : Calls Tryd.prog 31 #[.pointer (some ⟨b, 0, none⟩), .int .i64 x, .int .i64 y] w (UPost w b (u.done x y).1 (cDone x y)) := by
  have hb := below_alloc (Below.refl w.heap.size w) (.cells (cac za).toArray 41)
  have hq := BlkW.new w 41 (cac za).toArray
  have HU := Lib.hid (Ur.mk (h.below hb) hq (Only.of_below hb) (Nat.le_refl _))
  clear h hb hq
  go_enter Tryd.func31, Tryd.ntmps31
  go_upto_region 1 with fail
  show Code.wp _ _ _ _ (w.alloc (.cells (cac za).toArray 41))
  generalize w.alloc (.cells (cac za).toArray 41) = W at HU ⊢
  obtain ⟨g, hg⟩ : ∃ g, g = w.heap.size := ⟨_, rfl⟩
  rw [← hg] at HU ⊢
  clear hg
  have hz := BlkW.lt HU.out.hu
  have c4 := HU.out.hu.line
  have f4 := HU.out.hu.frozen 4
  go_upto_region 2 with fail
  show Code.wp _ _ _ _ (W.setCell ⟨b, 4, none⟩ (.int .i64 9))
  replace HU := Lib.hid (HU.out.line 9)
  clear c4 f4 hz
  generalize W.setCell ⟨b, 4, none⟩ (.int .i64 9) = W at HU ⊢
  have hz := BlkW.lt HU.out.hu
  go_wp2_with (first
    | (refine wp_store_u HU.out rfl 41 (.tmp 16) (.tmp 14) rfl 26 (cac (cDone x y)) (by rfl) (by rfl) (Nat.le_of_ble_eq_true rfl) infoCl (cac_one _) (u.done x y).1 (by kernel_rfl) ?_; intro W1 R1; have R1 := Lib.hid R1; have hz1 := BlkW.lt R1.out.hu; have HRG := Lib.hid (R1.out.hu.range 26 (cac (cDone x y)) (by kernel_rfl)))
    | (refine wpList_load_mid rfl 41 (.tmp 19) rfl b 26 rfl (cac (cDone x y)) _ HRG.out Tryd.underlying41 rfl infoCl ?_)
    | (refine wp_store_c R1.out.hq rfl (.tmp 6) (.tmp 20) rfl (by rfl) (cDone x y) (by rfl) ?_; intro W9 k1 k2; have K1 := Lib.hid k1; have K2 := Lib.hid (R1.out.fin k1 k2); clear k1 k2))
  exact bodyPost_ret (v := cav (cDone x y)) (rresults rfl _ (by rfl) (rans_load K1.out)) rfl ⟨rfl, Lib.hid K2.out.hu, Lib.hid K2.out.off⟩
end
end Go.Proofs.YtihjklimcchkhaaDoor.Co
