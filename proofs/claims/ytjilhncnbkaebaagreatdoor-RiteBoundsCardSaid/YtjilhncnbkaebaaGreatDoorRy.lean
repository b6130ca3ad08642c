/- Mourner.next: what a thread asks next. A template (made by gen_XRy.py). -/
import Derived.Test.YtjilhncnbkaebaaGreatDoorRA
namespace Go.Proofs.YtjilhncnbkaebaaGreatDoor
open Go.RowKit Go.Extern.Stop Go.Stop Go.Extern Go.Sort
section
variable {w W W' : World} {r b q xb ab : Nat} {sv fv nv : Value} {m : Rt} {mo : Mo} {x : Wd × Bool}
def rpA (x : Wd × Bool) : Array Value := #[.int .i64 x.1.slot, .int .i64 x.1.gen, .int .i64 x.1.tag, .int .i64 x.1.num, .bool x.1.mark, .bool x.2]
/-- Amid the call: the thread's block, the answer's box, the last reply's box. -/
structure Nx (w W : World) (b q xb r : Nat) (mo : Mo) (x : Wd × Bool) : Prop where
  hm : BlkW W b 36 (moc r mo).toArray
  hq : BlkW W q 51 (clc zc).toArray
  hx : BlkW W xb 63 (rpA x)
  off : Off (fun j => j = b) w W
  fresh : w.heap.size ≤ q
theorem Nx.below (h : Nx w W b q xb r mo x) (hb : Below W.heap.size W W') : Nx w W' b q xb r mo x :=
  ⟨h.hm.below hb, h.hq.below hb, h.hx.below hb, h.off.then hb, h.fresh⟩
/-- The thread's own block turns. -/
theorem Nx.puts (h : Nx w W b q xb r mo x) (o : Nat) (vs : List Value) {mo' : Mo} (e : putL (moc r mo) o vs = moc r mo') : Nx w (W.setCells b o vs) b q xb r mo' x := by
  have h1 := blk_puts vs o h.hm
  rw [e] at h1
  have ho : Off (fun j => j = b) W (W.setCells b o vs) := Off.sets (K := fun j => j = b) (.inl rfl) _ o (Off.refl _ W)
  exact ⟨h1, ho.blk h.hq (BlkW.ne_ h.hq h.hm (by decide)), ho.blk h.hx (BlkW.ne_ h.hx h.hm (by decide)), h.off.trans ho (fun _ _ e => e), h.fresh⟩
structure Nd (w W : World) (b q r : Nat) (mo : Mo) (c : Cl) : Prop where
  hm : BlkW W b 36 (moc r mo).toArray
  hq : BlkW W q 51 (clc c).toArray
  off : Off (fun j => j = b) w W
theorem clc_one (c : Cl) : (clc c).toArray.all (·.oneCell') = true := by kernel_rfl
/-- What is answered is stored. -/
theorem wp_store_q {ops : Array Oper} {rest : List Oper} {op : Oper} {a : Act} {Q : Exit → Act → World → Prop} (h : Nx w W b q xb r mo x) (hgd : op.guard = none) (px py : Operand) (ho : op.op = .store 51 px py)
    (hx : a.eval px = .pointer (some ⟨q, 0, none⟩)) (c : Cl) (hy : a.eval py = .agg (clc c).toArray)
    (k : ∀ w', Nd w w' b q r mo c → wpList Tryz.prog ops Q rest (a.put op.dst undef) w') : wpList Tryz.prog ops Q (op :: rest) a W := by
  refine wpList_store_mid hgd 51 px py ho q 0 (clc c).toArray hx hy (there_of_blk h.hq 0 18 (by decide)) (show (Tryz.prog.info? 51).map (·.size) = some (clc c).toArray.size from infoCl) (clc_one c) ?_
  have h1 : BlkW (W.setCells q 0 (clc c)) q 51 (clc c).toArray := by
    have h1 := blk_puts (clc c) 0 h.hq
    rwa [show putL (clc zc) 0 (clc c) = clc c from by kernel_rfl] at h1
  have ho : Off (fun j => j = q) W (W.setCells q 0 (clc c)) := Off.sets (K := fun j => j = q) (.inl rfl) _ 0 (Off.refl _ W)
  exact k _ ⟨ho.blk h.hm (BlkW.ne_ h.hm h.hq (by decide)), h1, Off.sets (K := fun j => j = b) (.inr h.fresh) _ 0 h.off⟩
theorem results_cell {P : Program} {fn : Func} {a : Tmp} {t : TypeId} (h : fn.results = #[.cell a t]) (tmps : Array Value) {q : Nat} {w : World} {v : Value} (ht : tmps.getD a undef = .pointer (some ⟨q, 0, none⟩)) (hl : (loadVar t ⟨q, 0, none⟩).run P w = .ok v w) : (results fn tmps).run P w = .ok v w := by
  have e : tmps[a]?.getD undef = .pointer (some ⟨q, 0, none⟩) := by rw [← ht]; simp
  simp [results, h, e, asAddr, hl]
theorem Nd.load {c : Cl} (h : Nd w W b q r mo c) : (loadVar 51 ⟨q, 0, none⟩).run Tryz.prog W = .ok (clv c) W := by
  have hr : W.rangeAt q 0 (clc c) := fun j v hv => by rw [Nat.zero_add]; exact (BlkW.cell h.hq j).trans (by rw [List.getElem?_toArray]; exact hv)
  exact run_loadVar_mid W q 0 51 (clc c) _ hr Tryz.underlying51 rfl infoCl
/-- What next leaves: the call, and the thread as it is then. -/
def NPost (w : World) (b r : Nat) (mo : Mo) (c : Cl) (e : Ending) (w' : World) : Prop :=
  e = .returned (clv c) ∧ Hid (BlkW w' b 36 (moc r mo).toArray) ∧ Hid (Off (fun j => j = b) w w')
theorem Nx.olds (h : Nx w W b q xb r mo x) : W.cell? ⟨b, 2, none⟩ = some (.int .i64 mo.old.slot) ∧ W.cell? ⟨b, 3, none⟩ = some (.int .i64 mo.old.gen) ∧ W.cell? ⟨b, 4, none⟩ = some (.int .i64 mo.old.tag) ∧ W.cell? ⟨b, 5, none⟩ = some (.int .i64 mo.old.num) ∧ W.cell? ⟨b, 6, none⟩ = some (.bool mo.old.mark) :=
  ⟨h.hm.cell 2, h.hm.cell 3, h.hm.cell 4, h.hm.cell 5, h.hm.cell 6⟩
theorem Nx.nodes (h : Nx w W b q xb r mo x) : W.cell? ⟨b, 7, none⟩ = some (.int .i64 mo.node.slot) ∧ W.cell? ⟨b, 8, none⟩ = some (.int .i64 mo.node.gen) ∧ W.cell? ⟨b, 9, none⟩ = some (.int .i64 mo.node.tag) ∧ W.cell? ⟨b, 10, none⟩ = some (.int .i64 mo.node.num) ∧ W.cell? ⟨b, 11, none⟩ = some (.bool mo.node.mark) :=
  ⟨h.hm.cell 7, h.hm.cell 8, h.hm.cell 9, h.hm.cell 10, h.hm.cell 11⟩
theorem Nx.reps (h : Nx w W b q xb r mo x) : W.cell? ⟨xb, 0, none⟩ = some (.int .i64 x.1.slot) ∧ W.cell? ⟨xb, 1, none⟩ = some (.int .i64 x.1.gen) ∧ W.cell? ⟨xb, 2, none⟩ = some (.int .i64 x.1.tag) ∧ W.cell? ⟨xb, 3, none⟩ = some (.int .i64 x.1.num) ∧ W.cell? ⟨xb, 4, none⟩ = some (.bool x.1.mark) ∧ W.cell? ⟨xb, 5, none⟩ = some (.bool x.2) :=
  ⟨h.hx.cell 0, h.hx.cell 1, h.hx.cell 2, h.hx.cell 3, h.hx.cell 4, h.hx.cell 5⟩
theorem blk3c {W : World} {g : Nat} {t : TypeId} {a c d : Value} (h : BlkW W g t #[a, c, d]) : W.cell? ⟨g, 0, none⟩ = some a ∧ W.cell? ⟨g, 1, none⟩ = some c ∧ W.cell? ⟨g, 2, none⟩ = some d := ⟨h.cell 0, h.cell 1, h.cell 2⟩
theorem Field_any (s g t n : Int) (m : Bool) (f : Int) (w : World) :
    Calls Tryz.prog 64 #[.agg #[.int .i64 s, .int .i64 g, .int .i64 t, .int .i64 n, .bool m], .int .i64 f] w fun e w' => e = .returned (.agg #[.int .i64 s, .int .i64 g, .int .i64 f]) ∧ Below w.heap.size w w' := by
  go_enter Tryz.func64, Tryz.ntmps64
  go_wp2
  exact bodyPost_ret (v := .agg #[.int .i64 s, .int .i64 g, .int .i64 f]) (by simp [results, Tryz.results64, go_sem]) rfl ⟨rfl, ((Below.refl _ _).alloc (Nat.le_refl _) _).alloc (by simp) _⟩
theorem field_any (s g t n : Int) (m : Bool) (f : Int) (w : World) :
    Calls Tryz.prog 67 #[.agg #[.int .i64 s, .int .i64 g, .int .i64 t, .int .i64 n, .bool m], .int .i64 f] w fun e w' => e = .returned (.agg #[.int .i64 s, .int .i64 g, .int .i64 f]) ∧ Below w.heap.size w w' := by
  go_enter Tryz.func67, Tryz.ntmps67
  go_wp2_with fail
  refine (Field_any _ _ _ _ _ _ _).mono ?_
  rintro e w1 ⟨rfl, hb⟩
  have hb0 := below_alloc (below_alloc (Below.refl w.heap.size w) (.cells #[.int .i64 s, .int .i64 g, .int .i64 t, .int .i64 n, .bool m] 34)) (.cells #[.int .i64 0, .int .i64 0, .int .i64 0] 47)
  have hx := Lib.hid (((BlkW.new (w.alloc (.cells #[.int .i64 s, .int .i64 g, .int .i64 t, .int .i64 n, .bool m] 34)) 47 #[.int .i64 0, .int .i64 0, .int .i64 0])).below hb)
  have hB := Lib.hid (below_trans hb0 hb)
  clear hb hb0
  simp only [World.size_alloc] at hx
  obtain ⟨a0, a1, a2⟩ := blk3c hx.out
  have f0 := hx.out.frozen 0
  have f1 := hx.out.frozen 1
  have f2 := hx.out.frozen 2
  have hz := hx.out.lt
  go_wp2
  refine bodyPost_ret (v := .agg #[.int .i64 s, .int .i64 g, .int .i64 f]) (by simp [results, Tryz.results67, go_sem, a0, a1, a2]) rfl ⟨rfl, ?_⟩
  clear a0 a1 a2 f0 f1 f2
  exact below_set (below_set (below_set hB.out _ _ _ (by omega)) _ _ _ (by omega)) _ _ _ (by omega)
theorem mark_any (s g t n : Int) (m : Bool) (hs : 0 ≤ s ∧ s ≤ 1000000) (hg : 0 ≤ g ∧ g ≤ 1000000000) (w : World) :
    Calls Tryz.prog 68 #[.agg #[.int .i64 s, .int .i64 g, .int .i64 t, .int .i64 n, .bool m]] w fun e w' => e = .returned (.int .i64 (s + 2000 * g)) ∧ Below w.heap.size w w' := by
  have e1 : wrap64 (2000 * g) = 2000 * g := IntWalk.wrap64_in _ ⟨by omega, by omega⟩
  have e2 : wrap64 (s + 2000 * g) = s + 2000 * g := IntWalk.wrap64_in _ ⟨by omega, by omega⟩
  clear hs hg
  go_enter Tryz.func68, Tryz.ntmps68
  go_wp2
  go_ret
  refine ⟨?_, below_alloc (Below.refl _ _) _⟩
  show Ending.returned (.int .i64 (wrap64 (s + 2000 * g))) = _
  rw [e2]
/-- What a region that draws its order reads. -/
def Rd (b ab r : Nat) (mo : Mo) (W : World) : Prop := BlkW W b 36 (moc r mo).toArray ∧ BlkW W ab 47 ([.int .i64 0, .int .i64 0, .int .i64 0] : List Value).toArray
theorem blk_range {W : World} {g : Nat} {t : TypeId} {l : List Value} (h : BlkW W g t l.toArray) (o : Nat) (cs : List Value) (e : (l.drop o).take cs.length = cs) : W.rangeAt g o cs := fun j v hv => by
  have hj : j < cs.length := (List.getElem?_eq_some_iff.1 hv).1
  rw [BlkW.cell h, List.getElem?_toArray]
  rw [← e, List.getElem?_take_of_lt (by simpa using hj), List.getElem?_drop] at hv
  exact hv
theorem Rd.old {W : World} (h : Rd b ab r mo W) : W.rangeAt b 2 (wc mo.old) := blk_range h.1 2 _ (by kernel_rfl)
theorem Rd.node {W : World} (h : Rd b ab r mo W) : W.rangeAt b 7 (wc mo.node) := blk_range h.1 7 _ (by kernel_rfl)
theorem Rd.addr {W : World} (h : Rd b ab r mo W) : W.rangeAt ab 0 [.int .i64 0, .int .i64 0, .int .i64 0] := blk_range h.2 0 _ (by kernel_rfl)
theorem infoWrd : (Tryz.prog.info? 34).map (·.size) = some 5 := by kernel_rfl
theorem infoAd : (Tryz.prog.info? 47).map (·.size) = some 3 := by kernel_rfl
theorem step_store_q {ops : Array Oper} {op : Oper} {a : Act} {K : Act → World → Prop} {Q : Exit → Act → World → Prop} {E : Prop} (h : Nx w W b q xb r mo x) (hgd : op.guard = none) (px py : Operand) (ho : op.op = .store 51 px py)
    (hx : a.eval px = .pointer (some ⟨q, 0, none⟩)) (c : Cl) (hy : a.eval py = .agg (clc c).toArray)
    (k : ∀ w', Nd w w' b q r mo c → (∀ g t cs, t ≠ 51 → BlkW W g t cs → BlkW w' g t cs) → K (a.put op.dst undef) w') : if Region.wanted op (yielded ops a.tmps) = true then Oper.wp Tryz.prog op a W K Q else E := by
  have hw : Region.wanted op (yielded ops a.tmps) = true := by simp [Region.wanted, hgd]
  rw [if_pos hw]
  refine wp_store_mid 51 px py ho q 0 (clc c).toArray hx hy (there_of_blk h.hq 0 18 (by decide)) (show (Tryz.prog.info? 51).map (·.size) = some (clc c).toArray.size from infoCl) (clc_one c) ?_
  have h1 : BlkW (W.setCells q 0 (clc c)) q 51 (clc c).toArray := by
    have h1 := blk_puts (clc c) 0 h.hq
    rwa [show putL (clc zc) 0 (clc c) = clc c from by kernel_rfl] at h1
  have ho : Off (fun j => j = q) W (W.setCells q 0 (clc c)) := Off.sets (K := fun j => j = q) (.inl rfl) _ 0 (Off.refl _ W)
  exact k _ ⟨ho.blk h.hm (BlkW.ne_ h.hm h.hq (by decide)), h1, Off.sets (K := fun j => j = b) (.inr h.fresh) _ 0 h.off⟩ (fun g t cs ht hg => ho.blk hg (fun e => ht (by subst e; have := hg.symm.trans h.hq; simp at this; exact this.2)))
set_option maxRecDepth 100000 in
set_option maxHeartbeats 1000000 in
theorem next_0 (h : RtAt w r sv fv nv m) (hm : BlkW w b 36 (moc r mo).toArray) (hp : mo.pc = 0) (hlx : m.st.last = x) :
    Calls Tryz.prog 41 #[.pointer (some ⟨b, 0, none⟩)] w (NPost w b r { mo with pc := 1 } (cl 1)) := by
  have hl := Lib.hid h
  have hz := hm.lt
  have c0 : w.cell? ⟨b, 0, none⟩ = some (.pointer (some ⟨r, 0, none⟩)) := hm.cell 0
  have HM := Lib.hid hm
  clear h hm
  go_enter Tryz.func41, Tryz.ntmps41
  go_wp2_with fail
  refine (Reply_is (hl.out.below (below_alloc (Below.refl _ _) _))).mono ?_
  rintro e w1 ⟨rfl, hb⟩
  rw [hlx]
  clear hlx
  unfold rpv
  clear c0
  have HN : Hid (Nx w (w1.alloc (.cells (rpA x) 63)) b w.heap.size w1.heap.size r mo x) := by
    have b1 := below_alloc (Below.refl w.heap.size w) (.cells (clc zc).toArray 51)
    have b2 := below_alloc (Below.refl w1.heap.size w1) (.cells (rpA x) 63)
    exact Lib.hid ⟨((HM.out.below b1).below hb).below b2, ((BlkW.new _ _ _).below hb).below b2, BlkW.new _ _ _, ((Off.of_below b1).then hb).then b2, Nat.le_refl _⟩
  clear hb hl HM
  go_wp2_with fail
  simp only [show (w1.alloc (.cells #[.int .i64 x.1.slot, .int .i64 x.1.gen, .int .i64 x.1.tag, .int .i64 x.1.num, .bool x.1.mark, .bool x.2] 63)) = w1.alloc (.cells (rpA x) 63) from rfl]
  generalize w1.alloc (.cells (rpA x) 63) = W at HN ⊢
  generalize w.heap.size = q at HN ⊢
  generalize w1.heap.size = xb at HN ⊢
  refine (Bd.Root_yes 0 ⟨by decide, by decide⟩ _).mono ?_
  rintro e w2 ⟨rfl, hb⟩
  replace HN := Lib.hid (HN.out.below hb)
  clear hb
  unfold Bd.ad
  go_upto_region 3 with fail
  have HA := Lib.hid (BlkW.new w2 47 #[.int .i64 0, .int .i64 0, .int .i64 0])
  replace HN := Lib.hid (HN.out.below (below_alloc (Below.refl w2.heap.size w2) (.cells #[.int .i64 0, .int .i64 0, .int .i64 0] 47)))
  generalize w2.alloc (.cells #[.int .i64 0, .int .i64 0, .int .i64 0] 47) = W at HN HA ⊢
  generalize w2.heap.size = ab at HA ⊢
  have hne := BlkW.ne_ HA.out HN.out.hm (by decide)
  have p1 : W.cell? ⟨b, 1, none⟩ = some (.int .i64 (mo.pc : Int)) := HN.out.hm.cell 1
  rw [hp] at p1
  have hz := HN.out.hm.lt
  have f1 : W.frozen? ⟨b, 1, none⟩ = false := HN.out.hm.frozen 1
  have z1 : wrap64 (((0 : Nat) : Int) + 1) = 1 := IntWalk.wrap64_in _ ⟨by decide, by decide⟩
  go_upto_region 4 with fail
  replace HN : Hid (Nx w (W.setCell ⟨b, 1, none⟩ (.int .i64 1)) b q xb r { mo with pc := 1 } x) := Lib.hid (HN.out.puts 1 [.int .i64 1] rfl)
  replace HA : Hid (BlkW (W.setCell ⟨b, 1, none⟩ (.int .i64 1)) ab 47 #[.int .i64 0, .int .i64 0, .int .i64 0]) := Lib.hid (HA.out.far hne _)
  clear p1 f1 hz z1
  generalize W.setCell ⟨b, 1, none⟩ (.int .i64 1) = W at HN HA ⊢
  have p1 : W.cell? ⟨b, 1, none⟩ = some (.int .i64 1) := HN.out.hm.cell 1
  have hz := HN.out.hm.lt
  go_upto_region 6 with fail
  go_wp2_with (first | (refine wpList_build rfl 51 _ rfl (.agg (clc (cl 1)).toArray) (by kernel_rfl) ?_) | (refine wp_store_q HN.out rfl (.tmp 2) (.tmp 28) rfl (by rfl) (cl 1) (by rfl) ?_; intro W1 R1; have R1 := Lib.hid R1))
  exact bodyPost_ret (v := clv (cl 1)) (results_cell Tryz.results41 _ (by rfl) R1.out.load) rfl ⟨rfl, Lib.hid R1.out.hm, Lib.hid R1.out.off⟩
set_option maxRecDepth 100000 in
set_option maxHeartbeats 1000000 in
theorem next_1 (h : RtAt w r sv fv nv m) (hm : BlkW w b 36 (moc r mo).toArray) (hp : mo.pc = 1) (hlx : m.st.last = x) :
    Calls Tryz.prog 41 #[.pointer (some ⟨b, 0, none⟩)] w (NPost w b r { mo with pc := 2 } { zc with kind := 6 }) := by
  have hl := Lib.hid h
  have hz := hm.lt
  have c0 : w.cell? ⟨b, 0, none⟩ = some (.pointer (some ⟨r, 0, none⟩)) := hm.cell 0
  have HM := Lib.hid hm
  clear h hm
  go_enter Tryz.func41, Tryz.ntmps41
  go_wp2_with fail
  refine (Reply_is (hl.out.below (below_alloc (Below.refl _ _) _))).mono ?_
  rintro e w1 ⟨rfl, hb⟩
  rw [hlx]
  clear hlx
  unfold rpv
  clear c0
  have HN : Hid (Nx w (w1.alloc (.cells (rpA x) 63)) b w.heap.size w1.heap.size r mo x) := by
    have b1 := below_alloc (Below.refl w.heap.size w) (.cells (clc zc).toArray 51)
    have b2 := below_alloc (Below.refl w1.heap.size w1) (.cells (rpA x) 63)
    exact Lib.hid ⟨((HM.out.below b1).below hb).below b2, ((BlkW.new _ _ _).below hb).below b2, BlkW.new _ _ _, ((Off.of_below b1).then hb).then b2, Nat.le_refl _⟩
  clear hb hl HM
  go_wp2_with fail
  simp only [show (w1.alloc (.cells #[.int .i64 x.1.slot, .int .i64 x.1.gen, .int .i64 x.1.tag, .int .i64 x.1.num, .bool x.1.mark, .bool x.2] 63)) = w1.alloc (.cells (rpA x) 63) from rfl]
  generalize w1.alloc (.cells (rpA x) 63) = W at HN ⊢
  generalize w.heap.size = q at HN ⊢
  generalize w1.heap.size = xb at HN ⊢
  refine (Bd.Root_yes 0 ⟨by decide, by decide⟩ _).mono ?_
  rintro e w2 ⟨rfl, hb⟩
  replace HN := Lib.hid (HN.out.below hb)
  clear hb
  unfold Bd.ad
  go_upto_region 3 with fail
  have HA := Lib.hid (BlkW.new w2 47 #[.int .i64 0, .int .i64 0, .int .i64 0])
  replace HN := Lib.hid (HN.out.below (below_alloc (Below.refl w2.heap.size w2) (.cells #[.int .i64 0, .int .i64 0, .int .i64 0] 47)))
  generalize w2.alloc (.cells #[.int .i64 0, .int .i64 0, .int .i64 0] 47) = W at HN HA ⊢
  generalize w2.heap.size = ab at HA ⊢
  have hne := BlkW.ne_ HA.out HN.out.hm (by decide)
  have p1 : W.cell? ⟨b, 1, none⟩ = some (.int .i64 (mo.pc : Int)) := HN.out.hm.cell 1
  rw [hp] at p1
  have hz := HN.out.hm.lt
  have f1 : W.frozen? ⟨b, 1, none⟩ = false := HN.out.hm.frozen 1
  have z1 : wrap64 (((1 : Nat) : Int) + 1) = 2 := IntWalk.wrap64_in _ ⟨by decide, by decide⟩
  go_upto_region 4 with fail
  replace HN : Hid (Nx w (W.setCell ⟨b, 1, none⟩ (.int .i64 2)) b q xb r { mo with pc := 2 } x) := Lib.hid (HN.out.puts 1 [.int .i64 2] rfl)
  replace HA : Hid (BlkW (W.setCell ⟨b, 1, none⟩ (.int .i64 2)) ab 47 #[.int .i64 0, .int .i64 0, .int .i64 0]) := Lib.hid (HA.out.far hne _)
  clear p1 f1 hz z1
  generalize W.setCell ⟨b, 1, none⟩ (.int .i64 2) = W at HN HA ⊢
  have p1 : W.cell? ⟨b, 1, none⟩ = some (.int .i64 2) := HN.out.hm.cell 1
  have hz := HN.out.hm.lt
  go_upto_region 8 with fail
  obtain ⟨a0, a1, a2⟩ := blk3c HA.out
  have za := HA.out.lt
  go_wp2_with (first | (refine wpList_build rfl 51 _ rfl (.agg (clc { zc with kind := 6 }).toArray) (by kernel_rfl) ?_) | (refine wp_store_q HN.out rfl (.tmp 2) (.tmp 32) rfl (by rfl) { zc with kind := 6 } (by rfl) ?_; intro W1 R1; have R1 := Lib.hid R1))
  exact bodyPost_ret (v := clv { zc with kind := 6 }) (results_cell Tryz.results41 _ (by rfl) R1.out.load) rfl ⟨rfl, Lib.hid R1.out.hm, Lib.hid R1.out.off⟩
set_option maxRecDepth 100000 in
set_option maxHeartbeats 1000000 in
theorem next_4no (h : RtAt w r sv fv nv m) (hm : BlkW w b 36 (moc r mo).toArray) (hp : mo.pc = 4) (hlx : m.st.last = x) (hx : x.2 = false) :
    Calls Tryz.prog 41 #[.pointer (some ⟨b, 0, none⟩)] w (NPost w b r { mo with pc := 0 } (cl 2)) := by
  have hl := Lib.hid h
  have hz := hm.lt
  have c0 : w.cell? ⟨b, 0, none⟩ = some (.pointer (some ⟨r, 0, none⟩)) := hm.cell 0
  have HM := Lib.hid hm
  clear h hm
  go_enter Tryz.func41, Tryz.ntmps41
  go_wp2_with fail
  refine (Reply_is (hl.out.below (below_alloc (Below.refl _ _) _))).mono ?_
  rintro e w1 ⟨rfl, hb⟩
  rw [hlx]
  clear hlx
  unfold rpv
  clear c0
  replace hx := Lib.hid hx
  have HN : Hid (Nx w (w1.alloc (.cells (rpA x) 63)) b w.heap.size w1.heap.size r mo x) := by
    have b1 := below_alloc (Below.refl w.heap.size w) (.cells (clc zc).toArray 51)
    have b2 := below_alloc (Below.refl w1.heap.size w1) (.cells (rpA x) 63)
    exact Lib.hid ⟨((HM.out.below b1).below hb).below b2, ((BlkW.new _ _ _).below hb).below b2, BlkW.new _ _ _, ((Off.of_below b1).then hb).then b2, Nat.le_refl _⟩
  clear hb hl HM
  go_wp2_with fail
  simp only [show (w1.alloc (.cells #[.int .i64 x.1.slot, .int .i64 x.1.gen, .int .i64 x.1.tag, .int .i64 x.1.num, .bool x.1.mark, .bool x.2] 63)) = w1.alloc (.cells (rpA x) 63) from rfl]
  generalize w1.alloc (.cells (rpA x) 63) = W at HN ⊢
  generalize w.heap.size = q at HN ⊢
  generalize w1.heap.size = xb at HN ⊢
  refine (Bd.Root_yes 0 ⟨by decide, by decide⟩ _).mono ?_
  rintro e w2 ⟨rfl, hb⟩
  replace HN := Lib.hid (HN.out.below hb)
  clear hb
  unfold Bd.ad
  go_upto_region 3 with fail
  have HA := Lib.hid (BlkW.new w2 47 #[.int .i64 0, .int .i64 0, .int .i64 0])
  replace HN := Lib.hid (HN.out.below (below_alloc (Below.refl w2.heap.size w2) (.cells #[.int .i64 0, .int .i64 0, .int .i64 0] 47)))
  generalize w2.alloc (.cells #[.int .i64 0, .int .i64 0, .int .i64 0] 47) = W at HN HA ⊢
  generalize w2.heap.size = ab at HA ⊢
  have hne := BlkW.ne_ HA.out HN.out.hm (by decide)
  have p1 : W.cell? ⟨b, 1, none⟩ = some (.int .i64 (mo.pc : Int)) := HN.out.hm.cell 1
  rw [hp] at p1
  have hz := HN.out.hm.lt
  have f1 : W.frozen? ⟨b, 1, none⟩ = false := HN.out.hm.frozen 1
  have z1 : wrap64 (((4 : Nat) : Int) + 1) = 5 := IntWalk.wrap64_in _ ⟨by decide, by decide⟩
  go_upto_region 4 with fail
  replace HN : Hid (Nx w (W.setCell ⟨b, 1, none⟩ (.int .i64 5)) b q xb r { mo with pc := 5 } x) := Lib.hid (HN.out.puts 1 [.int .i64 5] rfl)
  replace HA : Hid (BlkW (W.setCell ⟨b, 1, none⟩ (.int .i64 5)) ab 47 #[.int .i64 0, .int .i64 0, .int .i64 0]) := Lib.hid (HA.out.far hne _)
  clear p1 f1 hz z1
  generalize W.setCell ⟨b, 1, none⟩ (.int .i64 5) = W at HN HA ⊢
  have p1 : W.cell? ⟨b, 1, none⟩ = some (.int .i64 5) := HN.out.hm.cell 1
  have hz := HN.out.hm.lt
  go_upto_region 18 with fail
  obtain ⟨x0, x1, x2, x3, x4, x5⟩ := HN.out.reps
  rw [hx.out] at x5
  have zx := HN.out.hx.lt
  have f1 : W.frozen? ⟨b, 1, none⟩ = false := HN.out.hm.frozen 1
  go_upto_region 20 with fail
  replace HN : Hid (Nx w (W.setCell ⟨b, 1, none⟩ (.int .i64 0)) b q xb r { mo with pc := 0 } x) := Lib.hid (HN.out.puts 1 [.int .i64 0] rfl)
  clear f1 p1
  generalize W.setCell ⟨b, 1, none⟩ (.int .i64 0) = W at HN ⊢
  go_wp2_with (first | (refine wpList_build rfl 51 _ rfl (.agg (clc (cl 2)).toArray) (by kernel_rfl) ?_) | (refine wp_store_q HN.out rfl (.tmp 2) (.tmp 90) rfl (by rfl) (cl 2) (by rfl) ?_; intro W1 R1; have R1 := Lib.hid R1))
  exact bodyPost_ret (v := clv (cl 2)) (results_cell Tryz.results41 _ (by rfl) R1.out.load) rfl ⟨rfl, Lib.hid R1.out.hm, Lib.hid R1.out.off⟩
set_option maxRecDepth 100000 in
set_option maxHeartbeats 1000000 in
theorem next_7 (h : RtAt w r sv fv nv m) (hm : BlkW w b 36 (moc r mo).toArray) (hp : mo.pc = 7) (hlx : m.st.last = x) :
    Calls Tryz.prog 41 #[.pointer (some ⟨b, 0, none⟩)] w (NPost w b r { mo with pc := 0 } (cl 2)) := by
  have hl := Lib.hid h
  have hz := hm.lt
  have c0 : w.cell? ⟨b, 0, none⟩ = some (.pointer (some ⟨r, 0, none⟩)) := hm.cell 0
  have HM := Lib.hid hm
  clear h hm
  go_enter Tryz.func41, Tryz.ntmps41
  go_wp2_with fail
  refine (Reply_is (hl.out.below (below_alloc (Below.refl _ _) _))).mono ?_
  rintro e w1 ⟨rfl, hb⟩
  rw [hlx]
  clear hlx
  unfold rpv
  clear c0
  have HN : Hid (Nx w (w1.alloc (.cells (rpA x) 63)) b w.heap.size w1.heap.size r mo x) := by
    have b1 := below_alloc (Below.refl w.heap.size w) (.cells (clc zc).toArray 51)
    have b2 := below_alloc (Below.refl w1.heap.size w1) (.cells (rpA x) 63)
    exact Lib.hid ⟨((HM.out.below b1).below hb).below b2, ((BlkW.new _ _ _).below hb).below b2, BlkW.new _ _ _, ((Off.of_below b1).then hb).then b2, Nat.le_refl _⟩
  clear hb hl HM
  go_wp2_with fail
  simp only [show (w1.alloc (.cells #[.int .i64 x.1.slot, .int .i64 x.1.gen, .int .i64 x.1.tag, .int .i64 x.1.num, .bool x.1.mark, .bool x.2] 63)) = w1.alloc (.cells (rpA x) 63) from rfl]
  generalize w1.alloc (.cells (rpA x) 63) = W at HN ⊢
  generalize w.heap.size = q at HN ⊢
  generalize w1.heap.size = xb at HN ⊢
  refine (Bd.Root_yes 0 ⟨by decide, by decide⟩ _).mono ?_
  rintro e w2 ⟨rfl, hb⟩
  replace HN := Lib.hid (HN.out.below hb)
  clear hb
  unfold Bd.ad
  go_upto_region 3 with fail
  have HA := Lib.hid (BlkW.new w2 47 #[.int .i64 0, .int .i64 0, .int .i64 0])
  replace HN := Lib.hid (HN.out.below (below_alloc (Below.refl w2.heap.size w2) (.cells #[.int .i64 0, .int .i64 0, .int .i64 0] 47)))
  generalize w2.alloc (.cells #[.int .i64 0, .int .i64 0, .int .i64 0] 47) = W at HN HA ⊢
  generalize w2.heap.size = ab at HA ⊢
  have hne := BlkW.ne_ HA.out HN.out.hm (by decide)
  have p1 : W.cell? ⟨b, 1, none⟩ = some (.int .i64 (mo.pc : Int)) := HN.out.hm.cell 1
  rw [hp] at p1
  have hz := HN.out.hm.lt
  have f1 : W.frozen? ⟨b, 1, none⟩ = false := HN.out.hm.frozen 1
  have z1 : wrap64 (((7 : Nat) : Int) + 1) = 8 := IntWalk.wrap64_in _ ⟨by decide, by decide⟩
  go_upto_region 4 with fail
  replace HN : Hid (Nx w (W.setCell ⟨b, 1, none⟩ (.int .i64 8)) b q xb r { mo with pc := 8 } x) := Lib.hid (HN.out.puts 1 [.int .i64 8] rfl)
  replace HA : Hid (BlkW (W.setCell ⟨b, 1, none⟩ (.int .i64 8)) ab 47 #[.int .i64 0, .int .i64 0, .int .i64 0]) := Lib.hid (HA.out.far hne _)
  clear p1 f1 hz z1
  generalize W.setCell ⟨b, 1, none⟩ (.int .i64 8) = W at HN HA ⊢
  have p1 : W.cell? ⟨b, 1, none⟩ = some (.int .i64 8) := HN.out.hm.cell 1
  have hz := HN.out.hm.lt
  go_upto_region 31 with fail
  have f1 : W.frozen? ⟨b, 1, none⟩ = false := HN.out.hm.frozen 1
  go_upto_region 32 with fail
  replace HN : Hid (Nx w (W.setCell ⟨b, 1, none⟩ (.int .i64 0)) b q xb r { mo with pc := 0 } x) := Lib.hid (HN.out.puts 1 [.int .i64 0] rfl)
  clear f1 p1
  generalize W.setCell ⟨b, 1, none⟩ (.int .i64 0) = W at HN ⊢
  go_wp2_with (first | (refine wpList_build rfl 51 _ rfl (.agg (clc (cl 2)).toArray) (by kernel_rfl) ?_) | (refine wp_store_q HN.out rfl (.tmp 2) (.tmp 150) rfl (by rfl) (cl 2) (by rfl) ?_; intro W1 R1; have R1 := Lib.hid R1))
  exact bodyPost_ret (v := clv (cl 2)) (results_cell Tryz.results41 _ (by rfl) R1.out.load) rfl ⟨rfl, Lib.hid R1.out.hm, Lib.hid R1.out.off⟩
set_option maxRecDepth 100000 in
set_option maxHeartbeats 1000000 in
theorem next_6no (h : RtAt w r sv fv nv m) (hm : BlkW w b 36 (moc r mo).toArray) (hp : mo.pc = 6) (hlx : m.st.last = x) (hx : x.2 = false) :
    Calls Tryz.prog 41 #[.pointer (some ⟨b, 0, none⟩)] w (NPost w b r { mo with pc := 7 } { zc with kind := 9, old := mo.node }) := by
  have hl := Lib.hid h
  have hz := hm.lt
  have c0 : w.cell? ⟨b, 0, none⟩ = some (.pointer (some ⟨r, 0, none⟩)) := hm.cell 0
  have HM := Lib.hid hm
  clear h hm
  go_enter Tryz.func41, Tryz.ntmps41
  go_wp2_with fail
  refine (Reply_is (hl.out.below (below_alloc (Below.refl _ _) _))).mono ?_
  rintro e w1 ⟨rfl, hb⟩
  rw [hlx]
  clear hlx
  unfold rpv
  clear c0
  replace hx := Lib.hid hx
  have HN : Hid (Nx w (w1.alloc (.cells (rpA x) 63)) b w.heap.size w1.heap.size r mo x) := by
    have b1 := below_alloc (Below.refl w.heap.size w) (.cells (clc zc).toArray 51)
    have b2 := below_alloc (Below.refl w1.heap.size w1) (.cells (rpA x) 63)
    exact Lib.hid ⟨((HM.out.below b1).below hb).below b2, ((BlkW.new _ _ _).below hb).below b2, BlkW.new _ _ _, ((Off.of_below b1).then hb).then b2, Nat.le_refl _⟩
  clear hb hl HM
  go_wp2_with fail
  simp only [show (w1.alloc (.cells #[.int .i64 x.1.slot, .int .i64 x.1.gen, .int .i64 x.1.tag, .int .i64 x.1.num, .bool x.1.mark, .bool x.2] 63)) = w1.alloc (.cells (rpA x) 63) from rfl]
  generalize w1.alloc (.cells (rpA x) 63) = W at HN ⊢
  generalize w.heap.size = q at HN ⊢
  generalize w1.heap.size = xb at HN ⊢
  refine (Bd.Root_yes 0 ⟨by decide, by decide⟩ _).mono ?_
  rintro e w2 ⟨rfl, hb⟩
  replace HN := Lib.hid (HN.out.below hb)
  clear hb
  unfold Bd.ad
  go_upto_region 3 with fail
  have HA := Lib.hid (BlkW.new w2 47 #[.int .i64 0, .int .i64 0, .int .i64 0])
  replace HN := Lib.hid (HN.out.below (below_alloc (Below.refl w2.heap.size w2) (.cells #[.int .i64 0, .int .i64 0, .int .i64 0] 47)))
  generalize w2.alloc (.cells #[.int .i64 0, .int .i64 0, .int .i64 0] 47) = W at HN HA ⊢
  generalize w2.heap.size = ab at HA ⊢
  have hne := BlkW.ne_ HA.out HN.out.hm (by decide)
  have p1 : W.cell? ⟨b, 1, none⟩ = some (.int .i64 (mo.pc : Int)) := HN.out.hm.cell 1
  rw [hp] at p1
  have hz := HN.out.hm.lt
  have f1 : W.frozen? ⟨b, 1, none⟩ = false := HN.out.hm.frozen 1
  have z1 : wrap64 (((6 : Nat) : Int) + 1) = 7 := IntWalk.wrap64_in _ ⟨by decide, by decide⟩
  go_upto_region 4 with fail
  replace HN : Hid (Nx w (W.setCell ⟨b, 1, none⟩ (.int .i64 7)) b q xb r { mo with pc := 7 } x) := Lib.hid (HN.out.puts 1 [.int .i64 7] rfl)
  replace HA : Hid (BlkW (W.setCell ⟨b, 1, none⟩ (.int .i64 7)) ab 47 #[.int .i64 0, .int .i64 0, .int .i64 0]) := Lib.hid (HA.out.far hne _)
  clear p1 f1 hz z1
  generalize W.setCell ⟨b, 1, none⟩ (.int .i64 7) = W at HN HA ⊢
  have p1 : W.cell? ⟨b, 1, none⟩ = some (.int .i64 7) := HN.out.hm.cell 1
  have hz := HN.out.hm.lt
  go_upto_region 26 with fail
  obtain ⟨x0, x1, x2, x3, x4, x5⟩ := HN.out.reps
  rw [hx.out] at x5
  have zx := HN.out.hx.lt
  obtain ⟨n0, n1, n2, n3, n4⟩ := HN.out.nodes
  go_upto_region 27 with fail
  go_wp2_with (first | (refine wpList_build rfl 51 _ rfl (.agg (clc { zc with kind := 9, old := mo.node }).toArray) (by kernel_rfl) ?_) | (refine wp_store_q HN.out rfl (.tmp 2) (.tmp 134) rfl (by rfl) { zc with kind := 9, old := mo.node } (by rfl) ?_; intro W1 R1; have R1 := Lib.hid R1))
  exact bodyPost_ret (v := clv { zc with kind := 9, old := mo.node }) (results_cell Tryz.results41 _ (by rfl) R1.out.load) rfl ⟨rfl, Lib.hid R1.out.hm, Lib.hid R1.out.off⟩
set_option maxRecDepth 100000 in
set_option maxHeartbeats 1000000 in
theorem next_6nil (h : RtAt w r sv fv nv m) (hm : BlkW w b 36 (moc r mo).toArray) (hp : mo.pc = 6) (hlx : m.st.last = x) (hx : x.2 = true) (hn : mo.old.nil = true) :
    Calls Tryz.prog 41 #[.pointer (some ⟨b, 0, none⟩)] w (NPost w b r { mo with pc := 7 } loadRoot) := by
  have hl := Lib.hid h
  have hz := hm.lt
  have c0 : w.cell? ⟨b, 0, none⟩ = some (.pointer (some ⟨r, 0, none⟩)) := hm.cell 0
  have HM := Lib.hid hm
  clear h hm
  go_enter Tryz.func41, Tryz.ntmps41
  go_wp2_with fail
  refine (Reply_is (hl.out.below (below_alloc (Below.refl _ _) _))).mono ?_
  rintro e w1 ⟨rfl, hb⟩
  rw [hlx]
  clear hlx
  unfold rpv
  clear c0
  replace hx := Lib.hid hx
  have HN : Hid (Nx w (w1.alloc (.cells (rpA x) 63)) b w.heap.size w1.heap.size r mo x) := by
    have b1 := below_alloc (Below.refl w.heap.size w) (.cells (clc zc).toArray 51)
    have b2 := below_alloc (Below.refl w1.heap.size w1) (.cells (rpA x) 63)
    exact Lib.hid ⟨((HM.out.below b1).below hb).below b2, ((BlkW.new _ _ _).below hb).below b2, BlkW.new _ _ _, ((Off.of_below b1).then hb).then b2, Nat.le_refl _⟩
  clear hb hl HM
  go_wp2_with fail
  simp only [show (w1.alloc (.cells #[.int .i64 x.1.slot, .int .i64 x.1.gen, .int .i64 x.1.tag, .int .i64 x.1.num, .bool x.1.mark, .bool x.2] 63)) = w1.alloc (.cells (rpA x) 63) from rfl]
  generalize w1.alloc (.cells (rpA x) 63) = W at HN ⊢
  generalize w.heap.size = q at HN ⊢
  generalize w1.heap.size = xb at HN ⊢
  refine (Bd.Root_yes 0 ⟨by decide, by decide⟩ _).mono ?_
  rintro e w2 ⟨rfl, hb⟩
  replace HN := Lib.hid (HN.out.below hb)
  clear hb
  unfold Bd.ad
  go_upto_region 3 with fail
  have HA := Lib.hid (BlkW.new w2 47 #[.int .i64 0, .int .i64 0, .int .i64 0])
  replace HN := Lib.hid (HN.out.below (below_alloc (Below.refl w2.heap.size w2) (.cells #[.int .i64 0, .int .i64 0, .int .i64 0] 47)))
  generalize w2.alloc (.cells #[.int .i64 0, .int .i64 0, .int .i64 0] 47) = W at HN HA ⊢
  generalize w2.heap.size = ab at HA ⊢
  have hne := BlkW.ne_ HA.out HN.out.hm (by decide)
  have p1 : W.cell? ⟨b, 1, none⟩ = some (.int .i64 (mo.pc : Int)) := HN.out.hm.cell 1
  rw [hp] at p1
  have hz := HN.out.hm.lt
  have f1 : W.frozen? ⟨b, 1, none⟩ = false := HN.out.hm.frozen 1
  have z1 : wrap64 (((6 : Nat) : Int) + 1) = 7 := IntWalk.wrap64_in _ ⟨by decide, by decide⟩
  go_upto_region 4 with fail
  replace HN : Hid (Nx w (W.setCell ⟨b, 1, none⟩ (.int .i64 7)) b q xb r { mo with pc := 7 } x) := Lib.hid (HN.out.puts 1 [.int .i64 7] rfl)
  replace HA : Hid (BlkW (W.setCell ⟨b, 1, none⟩ (.int .i64 7)) ab 47 #[.int .i64 0, .int .i64 0, .int .i64 0]) := Lib.hid (HA.out.far hne _)
  clear p1 f1 hz z1
  generalize W.setCell ⟨b, 1, none⟩ (.int .i64 7) = W at HN HA ⊢
  have p1 : W.cell? ⟨b, 1, none⟩ = some (.int .i64 7) := HN.out.hm.cell 1
  have hz := HN.out.hm.lt
  go_upto_region 26 with fail
  obtain ⟨x0, x1, x2, x3, x4, x5⟩ := HN.out.reps
  rw [hx.out] at x5
  have zx := HN.out.hx.lt
  obtain ⟨o0, o1, o2, o3, o4⟩ := HN.out.olds
  go_wp2_with fail
  refine (Nil_any _ _ _ _ _ _).mono ?_
  rintro e w3 ⟨rfl, hb⟩
  rw [show (mo.old.slot == 0) = true from hn]
  replace HN := Lib.hid (HN.out.below hb)
  replace HA := Lib.hid (HA.out.below hb)
  clear hb o0 o1 o2 o3 o4 x0 x1 x2 x3 x4 x5 zx hz p1
  have hz := HN.out.hm.lt
  obtain ⟨a0, a1, a2⟩ := blk3c HA.out
  have za := HA.out.lt
  go_upto_region 29 with fail
  go_wp2_with (first | (refine wpList_build rfl 51 _ rfl (.agg (clc loadRoot).toArray) (by kernel_rfl) ?_) | (refine wp_store_q HN.out rfl (.tmp 2) (.tmp 141) rfl (by rfl) loadRoot (by rfl) ?_; intro W1 R1; have R1 := Lib.hid R1))
  exact bodyPost_ret (v := clv loadRoot) (results_cell Tryz.results41 _ (by rfl) R1.out.load) rfl ⟨rfl, Lib.hid R1.out.hm, Lib.hid R1.out.off⟩
set_option maxRecDepth 100000 in
set_option maxHeartbeats 1000000 in
theorem next_6 (h : RtAt w r sv fv nv m) (hm : BlkW w b 36 (moc r mo).toArray) (hp : mo.pc = 6) (hlx : m.st.last = x) (hx : x.2 = true) (hn : mo.old.nil = false) :
    Calls Tryz.prog 41 #[.pointer (some ⟨b, 0, none⟩)] w (NPost w b r { mo with pc := 7 } { zc with kind := 10, old := mo.old }) := by
  have hl := Lib.hid h
  have hz := hm.lt
  have c0 : w.cell? ⟨b, 0, none⟩ = some (.pointer (some ⟨r, 0, none⟩)) := hm.cell 0
  have HM := Lib.hid hm
  clear h hm
  go_enter Tryz.func41, Tryz.ntmps41
  go_wp2_with fail
  refine (Reply_is (hl.out.below (below_alloc (Below.refl _ _) _))).mono ?_
  rintro e w1 ⟨rfl, hb⟩
  rw [hlx]
  clear hlx
  unfold rpv
  clear c0
  replace hx := Lib.hid hx
  have HN : Hid (Nx w (w1.alloc (.cells (rpA x) 63)) b w.heap.size w1.heap.size r mo x) := by
    have b1 := below_alloc (Below.refl w.heap.size w) (.cells (clc zc).toArray 51)
    have b2 := below_alloc (Below.refl w1.heap.size w1) (.cells (rpA x) 63)
    exact Lib.hid ⟨((HM.out.below b1).below hb).below b2, ((BlkW.new _ _ _).below hb).below b2, BlkW.new _ _ _, ((Off.of_below b1).then hb).then b2, Nat.le_refl _⟩
  clear hb hl HM
  go_wp2_with fail
  simp only [show (w1.alloc (.cells #[.int .i64 x.1.slot, .int .i64 x.1.gen, .int .i64 x.1.tag, .int .i64 x.1.num, .bool x.1.mark, .bool x.2] 63)) = w1.alloc (.cells (rpA x) 63) from rfl]
  generalize w1.alloc (.cells (rpA x) 63) = W at HN ⊢
  generalize w.heap.size = q at HN ⊢
  generalize w1.heap.size = xb at HN ⊢
  refine (Bd.Root_yes 0 ⟨by decide, by decide⟩ _).mono ?_
  rintro e w2 ⟨rfl, hb⟩
  replace HN := Lib.hid (HN.out.below hb)
  clear hb
  unfold Bd.ad
  go_upto_region 3 with fail
  have HA := Lib.hid (BlkW.new w2 47 #[.int .i64 0, .int .i64 0, .int .i64 0])
  replace HN := Lib.hid (HN.out.below (below_alloc (Below.refl w2.heap.size w2) (.cells #[.int .i64 0, .int .i64 0, .int .i64 0] 47)))
  generalize w2.alloc (.cells #[.int .i64 0, .int .i64 0, .int .i64 0] 47) = W at HN HA ⊢
  generalize w2.heap.size = ab at HA ⊢
  have hne := BlkW.ne_ HA.out HN.out.hm (by decide)
  have p1 : W.cell? ⟨b, 1, none⟩ = some (.int .i64 (mo.pc : Int)) := HN.out.hm.cell 1
  rw [hp] at p1
  have hz := HN.out.hm.lt
  have f1 : W.frozen? ⟨b, 1, none⟩ = false := HN.out.hm.frozen 1
  have z1 : wrap64 (((6 : Nat) : Int) + 1) = 7 := IntWalk.wrap64_in _ ⟨by decide, by decide⟩
  go_upto_region 4 with fail
  replace HN : Hid (Nx w (W.setCell ⟨b, 1, none⟩ (.int .i64 7)) b q xb r { mo with pc := 7 } x) := Lib.hid (HN.out.puts 1 [.int .i64 7] rfl)
  replace HA : Hid (BlkW (W.setCell ⟨b, 1, none⟩ (.int .i64 7)) ab 47 #[.int .i64 0, .int .i64 0, .int .i64 0]) := Lib.hid (HA.out.far hne _)
  clear p1 f1 hz z1
  generalize W.setCell ⟨b, 1, none⟩ (.int .i64 7) = W at HN HA ⊢
  have p1 : W.cell? ⟨b, 1, none⟩ = some (.int .i64 7) := HN.out.hm.cell 1
  have hz := HN.out.hm.lt
  go_upto_region 26 with fail
  obtain ⟨x0, x1, x2, x3, x4, x5⟩ := HN.out.reps
  rw [hx.out] at x5
  have zx := HN.out.hx.lt
  obtain ⟨o0, o1, o2, o3, o4⟩ := HN.out.olds
  go_wp2_with fail
  refine (Nil_any _ _ _ _ _ _).mono ?_
  rintro e w3 ⟨rfl, hb⟩
  rw [show (mo.old.slot == 0) = false from hn]
  replace HN := Lib.hid (HN.out.below hb)
  replace HA := Lib.hid (HA.out.below hb)
  clear hb o0 o1 o2 o3 o4 x0 x1 x2 x3 x4 x5 zx hz p1
  have hz := HN.out.hm.lt
  obtain ⟨o0, o1, o2, o3, o4⟩ := HN.out.olds
  go_upto_region 30 with fail
  go_wp2_with (first | (refine wpList_build rfl 51 _ rfl (.agg (clc { zc with kind := 10, old := mo.old }).toArray) (by kernel_rfl) ?_) | (refine wp_store_q HN.out rfl (.tmp 2) (.tmp 146) rfl (by rfl) { zc with kind := 10, old := mo.old } (by rfl) ?_; intro W1 R1; have R1 := Lib.hid R1))
  exact bodyPost_ret (v := clv { zc with kind := 10, old := mo.old }) (results_cell Tryz.results41 _ (by rfl) R1.out.load) rfl ⟨rfl, Lib.hid R1.out.hm, Lib.hid R1.out.off⟩
set_option maxRecDepth 100000 in
set_option maxHeartbeats 1000000 in
theorem next_2nil (h : RtAt w r sv fv nv m) (hm : BlkW w b 36 (moc r mo).toArray) (hp : mo.pc = 2) (hlx : m.st.last = x) (hx : x.1.nil = true) :
    Calls Tryz.prog 41 #[.pointer (some ⟨b, 0, none⟩)] w (NPost w b r { mo with pc := 3, old := x.1 } loadRoot) := by
  have hl := Lib.hid h
  have hz := hm.lt
  have c0 : w.cell? ⟨b, 0, none⟩ = some (.pointer (some ⟨r, 0, none⟩)) := hm.cell 0
  have HM := Lib.hid hm
  clear h hm
  go_enter Tryz.func41, Tryz.ntmps41
  go_wp2_with fail
  refine (Reply_is (hl.out.below (below_alloc (Below.refl _ _) _))).mono ?_
  rintro e w1 ⟨rfl, hb⟩
  rw [hlx]
  clear hlx
  unfold rpv
  clear c0
  replace hx := Lib.hid hx
  have HN : Hid (Nx w (w1.alloc (.cells (rpA x) 63)) b w.heap.size w1.heap.size r mo x) := by
    have b1 := below_alloc (Below.refl w.heap.size w) (.cells (clc zc).toArray 51)
    have b2 := below_alloc (Below.refl w1.heap.size w1) (.cells (rpA x) 63)
    exact Lib.hid ⟨((HM.out.below b1).below hb).below b2, ((BlkW.new _ _ _).below hb).below b2, BlkW.new _ _ _, ((Off.of_below b1).then hb).then b2, Nat.le_refl _⟩
  clear hb hl HM
  go_wp2_with fail
  simp only [show (w1.alloc (.cells #[.int .i64 x.1.slot, .int .i64 x.1.gen, .int .i64 x.1.tag, .int .i64 x.1.num, .bool x.1.mark, .bool x.2] 63)) = w1.alloc (.cells (rpA x) 63) from rfl]
  generalize w1.alloc (.cells (rpA x) 63) = W at HN ⊢
  generalize w.heap.size = q at HN ⊢
  generalize w1.heap.size = xb at HN ⊢
  refine (Bd.Root_yes 0 ⟨by decide, by decide⟩ _).mono ?_
  rintro e w2 ⟨rfl, hb⟩
  replace HN := Lib.hid (HN.out.below hb)
  clear hb
  unfold Bd.ad
  go_upto_region 3 with fail
  have HA := Lib.hid (BlkW.new w2 47 #[.int .i64 0, .int .i64 0, .int .i64 0])
  replace HN := Lib.hid (HN.out.below (below_alloc (Below.refl w2.heap.size w2) (.cells #[.int .i64 0, .int .i64 0, .int .i64 0] 47)))
  generalize w2.alloc (.cells #[.int .i64 0, .int .i64 0, .int .i64 0] 47) = W at HN HA ⊢
  generalize w2.heap.size = ab at HA ⊢
  have hne := BlkW.ne_ HA.out HN.out.hm (by decide)
  have p1 : W.cell? ⟨b, 1, none⟩ = some (.int .i64 (mo.pc : Int)) := HN.out.hm.cell 1
  rw [hp] at p1
  have hz := HN.out.hm.lt
  have f1 : W.frozen? ⟨b, 1, none⟩ = false := HN.out.hm.frozen 1
  have z1 : wrap64 (((2 : Nat) : Int) + 1) = 3 := IntWalk.wrap64_in _ ⟨by decide, by decide⟩
  go_upto_region 4 with fail
  replace HN : Hid (Nx w (W.setCell ⟨b, 1, none⟩ (.int .i64 3)) b q xb r { mo with pc := 3 } x) := Lib.hid (HN.out.puts 1 [.int .i64 3] rfl)
  replace HA : Hid (BlkW (W.setCell ⟨b, 1, none⟩ (.int .i64 3)) ab 47 #[.int .i64 0, .int .i64 0, .int .i64 0]) := Lib.hid (HA.out.far hne _)
  clear p1 f1 hz z1
  generalize W.setCell ⟨b, 1, none⟩ (.int .i64 3) = W at HN HA ⊢
  have p1 : W.cell? ⟨b, 1, none⟩ = some (.int .i64 3) := HN.out.hm.cell 1
  have hz := HN.out.hm.lt
  go_upto_region 10 with fail
  obtain ⟨x0, x1, x2, x3, x4, x5⟩ := HN.out.reps
  have zx := HN.out.hx.lt
  have f0 : W.frozen? ⟨b, 2, none⟩ = false := HN.out.hm.frozen 2
  have f1 : W.frozen? ⟨b, 3, none⟩ = false := HN.out.hm.frozen 3
  have f2 : W.frozen? ⟨b, 4, none⟩ = false := HN.out.hm.frozen 4
  have f3 : W.frozen? ⟨b, 5, none⟩ = false := HN.out.hm.frozen 5
  have f4 : W.frozen? ⟨b, 6, none⟩ = false := HN.out.hm.frozen 6
  have g0 : ∃ v, W.cell? ⟨b, 2, none⟩ = some v := ⟨_, HN.out.hm.cell 2⟩
  obtain ⟨v0, g0⟩ := g0
  have g1 : ∃ v, W.cell? ⟨b, 3, none⟩ = some v := ⟨_, HN.out.hm.cell 3⟩
  obtain ⟨v1, g1⟩ := g1
  have g2 : ∃ v, W.cell? ⟨b, 4, none⟩ = some v := ⟨_, HN.out.hm.cell 4⟩
  obtain ⟨v2, g2⟩ := g2
  have g3 : ∃ v, W.cell? ⟨b, 5, none⟩ = some v := ⟨_, HN.out.hm.cell 5⟩
  obtain ⟨v3, g3⟩ := g3
  have g4 : ∃ v, W.cell? ⟨b, 6, none⟩ = some v := ⟨_, HN.out.hm.cell 6⟩
  obtain ⟨v4, g4⟩ := g4
  go_upto_region 11 with fail
  replace HN : Hid (Nx w (((((W.setCell ⟨b, 2, none⟩ (.int .i64 x.1.slot)).setCell ⟨b, 3, none⟩ (.int .i64 x.1.gen)).setCell ⟨b, 4, none⟩ (.int .i64 x.1.tag)).setCell ⟨b, 5, none⟩ (.int .i64 x.1.num)).setCell ⟨b, 6, none⟩ (.bool x.1.mark)) b q xb r { mo with pc := 3, old := x.1 } x) := Lib.hid (HN.out.puts 2 [.int .i64 x.1.slot, .int .i64 x.1.gen, .int .i64 x.1.tag, .int .i64 x.1.num, .bool x.1.mark] rfl)
  replace HA : Hid (BlkW (((((W.setCell ⟨b, 2, none⟩ (.int .i64 x.1.slot)).setCell ⟨b, 3, none⟩ (.int .i64 x.1.gen)).setCell ⟨b, 4, none⟩ (.int .i64 x.1.tag)).setCell ⟨b, 5, none⟩ (.int .i64 x.1.num)).setCell ⟨b, 6, none⟩ (.bool x.1.mark)) ab 47 #[.int .i64 0, .int .i64 0, .int .i64 0]) := Lib.hid (((((HA.out.far hne _).far hne _).far hne _).far hne _).far hne _)
  clear x0 x1 x2 x3 x4 x5 zx f0 g0 f1 g1 f2 g2 f3 g3 f4 g4 p1 hz
  generalize (((((W.setCell ⟨b, 2, none⟩ (.int .i64 x.1.slot)).setCell ⟨b, 3, none⟩ (.int .i64 x.1.gen)).setCell ⟨b, 4, none⟩ (.int .i64 x.1.tag)).setCell ⟨b, 5, none⟩ (.int .i64 x.1.num)).setCell ⟨b, 6, none⟩ (.bool x.1.mark)) = W at HN HA ⊢
  have hz := HN.out.hm.lt
  obtain ⟨o0, o1, o2, o3, o4⟩ := HN.out.olds
  go_wp2_with fail
  refine (Nil_any _ _ _ _ _ _).mono ?_
  rintro e w3 ⟨rfl, hb⟩
  rw [show (x.1.slot == 0) = true from hx.out]
  replace HN := Lib.hid (HN.out.below hb)
  replace HA := Lib.hid (HA.out.below hb)
  clear hb o0 o1 o2 o3 o4 hz
  have hz := HN.out.hm.lt
  obtain ⟨a0, a1, a2⟩ := blk3c HA.out
  have za := HA.out.lt
  go_upto_region 12 with fail
  go_wp2_with (first | (refine wpList_build rfl 51 _ rfl (.agg (clc loadRoot).toArray) (by kernel_rfl) ?_) | (refine wp_store_q HN.out rfl (.tmp 2) (.tmp 46) rfl (by rfl) loadRoot (by rfl) ?_; intro W1 R1; have R1 := Lib.hid R1))
  exact bodyPost_ret (v := clv loadRoot) (results_cell Tryz.results41 _ (by rfl) R1.out.load) rfl ⟨rfl, Lib.hid R1.out.hm, Lib.hid R1.out.off⟩
set_option maxRecDepth 100000 in
set_option maxHeartbeats 1000000 in
theorem next_2 (h : RtAt w r sv fv nv m) (hm : BlkW w b 36 (moc r mo).toArray) (hp : mo.pc = 2) (hlx : m.st.last = x) (hx : x.1.nil = false) :
    Calls Tryz.prog 41 #[.pointer (some ⟨b, 0, none⟩)] w (NPost w b r { mo with pc := 3, old := x.1 } { zc with kind := 3, s := x.1.slot, g := x.1.gen, f := 1 }) := by
  have hl := Lib.hid h
  have hz := hm.lt
  have c0 : w.cell? ⟨b, 0, none⟩ = some (.pointer (some ⟨r, 0, none⟩)) := hm.cell 0
  have HM := Lib.hid hm
  clear h hm
  go_enter Tryz.func41, Tryz.ntmps41
  go_wp2_with fail
  refine (Reply_is (hl.out.below (below_alloc (Below.refl _ _) _))).mono ?_
  rintro e w1 ⟨rfl, hb⟩
  rw [hlx]
  clear hlx
  unfold rpv
  clear c0
  replace hx := Lib.hid hx
  have HN : Hid (Nx w (w1.alloc (.cells (rpA x) 63)) b w.heap.size w1.heap.size r mo x) := by
    have b1 := below_alloc (Below.refl w.heap.size w) (.cells (clc zc).toArray 51)
    have b2 := below_alloc (Below.refl w1.heap.size w1) (.cells (rpA x) 63)
    exact Lib.hid ⟨((HM.out.below b1).below hb).below b2, ((BlkW.new _ _ _).below hb).below b2, BlkW.new _ _ _, ((Off.of_below b1).then hb).then b2, Nat.le_refl _⟩
  clear hb hl HM
  go_wp2_with fail
  simp only [show (w1.alloc (.cells #[.int .i64 x.1.slot, .int .i64 x.1.gen, .int .i64 x.1.tag, .int .i64 x.1.num, .bool x.1.mark, .bool x.2] 63)) = w1.alloc (.cells (rpA x) 63) from rfl]
  generalize w1.alloc (.cells (rpA x) 63) = W at HN ⊢
  generalize w.heap.size = q at HN ⊢
  generalize w1.heap.size = xb at HN ⊢
  refine (Bd.Root_yes 0 ⟨by decide, by decide⟩ _).mono ?_
  rintro e w2 ⟨rfl, hb⟩
  replace HN := Lib.hid (HN.out.below hb)
  clear hb
  unfold Bd.ad
  go_upto_region 3 with fail
  have HA := Lib.hid (BlkW.new w2 47 #[.int .i64 0, .int .i64 0, .int .i64 0])
  replace HN := Lib.hid (HN.out.below (below_alloc (Below.refl w2.heap.size w2) (.cells #[.int .i64 0, .int .i64 0, .int .i64 0] 47)))
  generalize w2.alloc (.cells #[.int .i64 0, .int .i64 0, .int .i64 0] 47) = W at HN HA ⊢
  generalize w2.heap.size = ab at HA ⊢
  have hne := BlkW.ne_ HA.out HN.out.hm (by decide)
  have p1 : W.cell? ⟨b, 1, none⟩ = some (.int .i64 (mo.pc : Int)) := HN.out.hm.cell 1
  rw [hp] at p1
  have hz := HN.out.hm.lt
  have f1 : W.frozen? ⟨b, 1, none⟩ = false := HN.out.hm.frozen 1
  have z1 : wrap64 (((2 : Nat) : Int) + 1) = 3 := IntWalk.wrap64_in _ ⟨by decide, by decide⟩
  go_upto_region 4 with fail
  replace HN : Hid (Nx w (W.setCell ⟨b, 1, none⟩ (.int .i64 3)) b q xb r { mo with pc := 3 } x) := Lib.hid (HN.out.puts 1 [.int .i64 3] rfl)
  replace HA : Hid (BlkW (W.setCell ⟨b, 1, none⟩ (.int .i64 3)) ab 47 #[.int .i64 0, .int .i64 0, .int .i64 0]) := Lib.hid (HA.out.far hne _)
  clear p1 f1 hz z1
  generalize W.setCell ⟨b, 1, none⟩ (.int .i64 3) = W at HN HA ⊢
  have p1 : W.cell? ⟨b, 1, none⟩ = some (.int .i64 3) := HN.out.hm.cell 1
  have hz := HN.out.hm.lt
  go_upto_region 10 with fail
  obtain ⟨x0, x1, x2, x3, x4, x5⟩ := HN.out.reps
  have zx := HN.out.hx.lt
  have f0 : W.frozen? ⟨b, 2, none⟩ = false := HN.out.hm.frozen 2
  have f1 : W.frozen? ⟨b, 3, none⟩ = false := HN.out.hm.frozen 3
  have f2 : W.frozen? ⟨b, 4, none⟩ = false := HN.out.hm.frozen 4
  have f3 : W.frozen? ⟨b, 5, none⟩ = false := HN.out.hm.frozen 5
  have f4 : W.frozen? ⟨b, 6, none⟩ = false := HN.out.hm.frozen 6
  have g0 : ∃ v, W.cell? ⟨b, 2, none⟩ = some v := ⟨_, HN.out.hm.cell 2⟩
  obtain ⟨v0, g0⟩ := g0
  have g1 : ∃ v, W.cell? ⟨b, 3, none⟩ = some v := ⟨_, HN.out.hm.cell 3⟩
  obtain ⟨v1, g1⟩ := g1
  have g2 : ∃ v, W.cell? ⟨b, 4, none⟩ = some v := ⟨_, HN.out.hm.cell 4⟩
  obtain ⟨v2, g2⟩ := g2
  have g3 : ∃ v, W.cell? ⟨b, 5, none⟩ = some v := ⟨_, HN.out.hm.cell 5⟩
  obtain ⟨v3, g3⟩ := g3
  have g4 : ∃ v, W.cell? ⟨b, 6, none⟩ = some v := ⟨_, HN.out.hm.cell 6⟩
  obtain ⟨v4, g4⟩ := g4
  go_upto_region 11 with fail
  replace HN : Hid (Nx w (((((W.setCell ⟨b, 2, none⟩ (.int .i64 x.1.slot)).setCell ⟨b, 3, none⟩ (.int .i64 x.1.gen)).setCell ⟨b, 4, none⟩ (.int .i64 x.1.tag)).setCell ⟨b, 5, none⟩ (.int .i64 x.1.num)).setCell ⟨b, 6, none⟩ (.bool x.1.mark)) b q xb r { mo with pc := 3, old := x.1 } x) := Lib.hid (HN.out.puts 2 [.int .i64 x.1.slot, .int .i64 x.1.gen, .int .i64 x.1.tag, .int .i64 x.1.num, .bool x.1.mark] rfl)
  replace HA : Hid (BlkW (((((W.setCell ⟨b, 2, none⟩ (.int .i64 x.1.slot)).setCell ⟨b, 3, none⟩ (.int .i64 x.1.gen)).setCell ⟨b, 4, none⟩ (.int .i64 x.1.tag)).setCell ⟨b, 5, none⟩ (.int .i64 x.1.num)).setCell ⟨b, 6, none⟩ (.bool x.1.mark)) ab 47 #[.int .i64 0, .int .i64 0, .int .i64 0]) := Lib.hid (((((HA.out.far hne _).far hne _).far hne _).far hne _).far hne _)
  clear x0 x1 x2 x3 x4 x5 zx f0 g0 f1 g1 f2 g2 f3 g3 f4 g4 p1 hz
  generalize (((((W.setCell ⟨b, 2, none⟩ (.int .i64 x.1.slot)).setCell ⟨b, 3, none⟩ (.int .i64 x.1.gen)).setCell ⟨b, 4, none⟩ (.int .i64 x.1.tag)).setCell ⟨b, 5, none⟩ (.int .i64 x.1.num)).setCell ⟨b, 6, none⟩ (.bool x.1.mark)) = W at HN HA ⊢
  have hz := HN.out.hm.lt
  obtain ⟨o0, o1, o2, o3, o4⟩ := HN.out.olds
  go_wp2_with fail
  refine (Nil_any _ _ _ _ _ _).mono ?_
  rintro e w3 ⟨rfl, hb⟩
  rw [show (x.1.slot == 0) = false from hx.out]
  replace HN := Lib.hid (HN.out.below hb)
  replace HA := Lib.hid (HA.out.below hb)
  clear hb o0 o1 o2 o3 o4 hz
  have hz := HN.out.hm.lt
  obtain ⟨o0, o1, o2, o3, o4⟩ := HN.out.olds
  go_upto_region 13 with fail
  go_wp2_with fail
  refine (field_any _ _ _ _ _ _ _).mono ?_
  rintro e w4 ⟨rfl, hb⟩
  replace HN := Lib.hid (HN.out.below hb)
  clear hb o0 o1 o2 o3 o4 hz
  go_wp2_with (first | (refine wpList_build rfl 51 _ rfl (.agg (clc { zc with kind := 3, s := x.1.slot, g := x.1.gen, f := 1 }).toArray) (by kernel_rfl) ?_) | (refine wp_store_q HN.out rfl (.tmp 2) (.tmp 52) rfl (by rfl) { zc with kind := 3, s := x.1.slot, g := x.1.gen, f := 1 } (by rfl) ?_; intro W1 R1; have R1 := Lib.hid R1))
  exact bodyPost_ret (v := clv { zc with kind := 3, s := x.1.slot, g := x.1.gen, f := 1 }) (results_cell Tryz.results41 _ (by rfl) R1.out.load) rfl ⟨rfl, Lib.hid R1.out.hm, Lib.hid R1.out.off⟩
set_option maxRecDepth 100000 in
set_option maxHeartbeats 1000000 in
theorem next_5 (h : RtAt w r sv fv nv m) (hm : BlkW w b 36 (moc r mo).toArray) (hp : mo.pc = 5) (hlx : m.st.last = x) (ht : wrap64 (mo.old.tag + 1) = mo.old.tag + 1) :
    Calls Tryz.prog 41 #[.pointer (some ⟨b, 0, none⟩)] w (NPost w b r { mo with pc := 6 } { zc with kind := 5, old := mo.old, new := mo.old.to mo.node }) := by
  have hl := Lib.hid h
  have hz := hm.lt
  have c0 : w.cell? ⟨b, 0, none⟩ = some (.pointer (some ⟨r, 0, none⟩)) := hm.cell 0
  have HM := Lib.hid hm
  clear h hm
  go_enter Tryz.func41, Tryz.ntmps41
  go_wp2_with fail
  refine (Reply_is (hl.out.below (below_alloc (Below.refl _ _) _))).mono ?_
  rintro e w1 ⟨rfl, hb⟩
  rw [hlx]
  clear hlx
  unfold rpv
  clear c0
  have HN : Hid (Nx w (w1.alloc (.cells (rpA x) 63)) b w.heap.size w1.heap.size r mo x) := by
    have b1 := below_alloc (Below.refl w.heap.size w) (.cells (clc zc).toArray 51)
    have b2 := below_alloc (Below.refl w1.heap.size w1) (.cells (rpA x) 63)
    exact Lib.hid ⟨((HM.out.below b1).below hb).below b2, ((BlkW.new _ _ _).below hb).below b2, BlkW.new _ _ _, ((Off.of_below b1).then hb).then b2, Nat.le_refl _⟩
  clear hb hl HM
  go_wp2_with fail
  simp only [show (w1.alloc (.cells #[.int .i64 x.1.slot, .int .i64 x.1.gen, .int .i64 x.1.tag, .int .i64 x.1.num, .bool x.1.mark, .bool x.2] 63)) = w1.alloc (.cells (rpA x) 63) from rfl]
  generalize w1.alloc (.cells (rpA x) 63) = W at HN ⊢
  generalize w.heap.size = q at HN ⊢
  generalize w1.heap.size = xb at HN ⊢
  refine (Bd.Root_yes 0 ⟨by decide, by decide⟩ _).mono ?_
  rintro e w2 ⟨rfl, hb⟩
  replace HN := Lib.hid (HN.out.below hb)
  clear hb
  unfold Bd.ad
  go_upto_region 3 with fail
  have HA := Lib.hid (BlkW.new w2 47 #[.int .i64 0, .int .i64 0, .int .i64 0])
  replace HN := Lib.hid (HN.out.below (below_alloc (Below.refl w2.heap.size w2) (.cells #[.int .i64 0, .int .i64 0, .int .i64 0] 47)))
  generalize w2.alloc (.cells #[.int .i64 0, .int .i64 0, .int .i64 0] 47) = W at HN HA ⊢
  generalize w2.heap.size = ab at HA ⊢
  have hne := BlkW.ne_ HA.out HN.out.hm (by decide)
  have p1 : W.cell? ⟨b, 1, none⟩ = some (.int .i64 (mo.pc : Int)) := HN.out.hm.cell 1
  rw [hp] at p1
  have hz := HN.out.hm.lt
  have f1 : W.frozen? ⟨b, 1, none⟩ = false := HN.out.hm.frozen 1
  have z1 : wrap64 (((5 : Nat) : Int) + 1) = 6 := IntWalk.wrap64_in _ ⟨by decide, by decide⟩
  go_upto_region 4 with fail
  replace HN : Hid (Nx w (W.setCell ⟨b, 1, none⟩ (.int .i64 6)) b q xb r { mo with pc := 6 } x) := Lib.hid (HN.out.puts 1 [.int .i64 6] rfl)
  replace HA : Hid (BlkW (W.setCell ⟨b, 1, none⟩ (.int .i64 6)) ab 47 #[.int .i64 0, .int .i64 0, .int .i64 0]) := Lib.hid (HA.out.far hne _)
  clear p1 f1 hz z1
  generalize W.setCell ⟨b, 1, none⟩ (.int .i64 6) = W at HN HA ⊢
  have p1 : W.cell? ⟨b, 1, none⟩ = some (.int .i64 6) := HN.out.hm.cell 1
  have hz := HN.out.hm.lt
  go_upto_region 24 with fail
  refine wp_region_held (S := Rd b ab r { mo with pc := 6 }) (by kernel_rfl) ?_
  have hS : Rd b ab r { mo with pc := 6 } W.drew := ⟨HN.out.hm.below (Below.refl _ _).drew, HA.out.below (Below.refl _ _).drew⟩
  replace HN := Lib.hid (HN.out.below (Below.refl _ _).drew)
  clear HA hz
  try clear p1
  show wpAnyH _ _ _ _ _ 16 #[false, false, false, false, false, false, false, false, false, false, false, false, false, false, false, false] _ W.drew
  generalize W.drew = W at HN hS ⊢
  refine wpAnyH_take (i := 0) (v := .agg ([.int .i64 0, .int .i64 0, .int .i64 0]).toArray) rfl (by kernel_rfl) (by kernel_rfl) (by kernel_rfl) (fun _ _ _ h => h) (yieldsIf_load_mid (by rfl) 47 (.tmp 4) rfl ab 0 rfl ([.int .i64 0, .int .i64 0, .int .i64 0]) _ (fun w' h => Rd.addr h) Tryz.underlying47 rfl infoAd) hS ?_
  simp only [Act.put, List.getElem_toArray, List.getElem_cons_succ, List.getElem_cons_zero, List.setIfInBounds_toArray, List.set_cons_zero, List.set_cons_succ]
  refine wpAnyH_take (i := 1) (v := .pointer (some ⟨b, 0, none⟩)) rfl (by kernel_rfl) (by kernel_rfl) (by kernel_rfl) (fun _ _ _ h => h) (Or.inl ⟨by rfl, fun w' _ => by go_simp⟩) hS ?_
  simp only [Act.put, List.getElem_toArray, List.getElem_cons_succ, List.getElem_cons_zero, List.setIfInBounds_toArray, List.set_cons_zero, List.set_cons_succ]
  refine wpAnyH_take (i := 2) (v := .pointer (some ⟨b, 0, none⟩)) rfl (by kernel_rfl) (by kernel_rfl) (by kernel_rfl) (fun _ _ _ h => h) (Or.inl ⟨by rfl, fun w' _ => by go_simp⟩) hS ?_
  simp only [Act.put, List.getElem_toArray, List.getElem_cons_succ, List.getElem_cons_zero, List.setIfInBounds_toArray, List.set_cons_zero, List.set_cons_succ]
  refine wpAnyH_take (i := 3) (v := .pointer (some ⟨b, 2, none⟩)) rfl (by kernel_rfl) (by kernel_rfl) (by kernel_rfl) (fun _ _ _ h => h) (Or.inl ⟨by rfl, fun w' _ => by go_simp⟩) hS ?_
  simp only [Act.put, List.getElem_toArray, List.getElem_cons_succ, List.getElem_cons_zero, List.setIfInBounds_toArray, List.set_cons_zero, List.set_cons_succ]
  refine wpAnyH_take (i := 4) (v := .agg (wc mo.old).toArray) rfl (by kernel_rfl) (by kernel_rfl) (by kernel_rfl) (fun _ _ _ h => h) (yieldsIf_load_mid (by rfl) 34 (.tmp 113) rfl b 2 rfl (wc mo.old) _ (fun w' h => Rd.old (mo := { mo with pc := 6 }) h) Tryz.underlying34 rfl infoWrd) hS ?_
  simp only [Act.put, List.getElem_toArray, List.getElem_cons_succ, List.getElem_cons_zero, List.setIfInBounds_toArray, List.set_cons_zero, List.set_cons_succ]
  refine wpAnyH_take (i := 5) (v := .pointer (some ⟨b, 0, none⟩)) rfl (by kernel_rfl) (by kernel_rfl) (by kernel_rfl) (fun _ _ _ h => h) (Or.inl ⟨by rfl, fun w' _ => by go_simp⟩) hS ?_
  simp only [Act.put, List.getElem_toArray, List.getElem_cons_succ, List.getElem_cons_zero, List.setIfInBounds_toArray, List.set_cons_zero, List.set_cons_succ]
  refine wpAnyH_take (i := 6) (v := .pointer (some ⟨b, 0, none⟩)) rfl (by kernel_rfl) (by kernel_rfl) (by kernel_rfl) (fun _ _ _ h => h) (Or.inl ⟨by rfl, fun w' _ => by go_simp⟩) hS ?_
  simp only [Act.put, List.getElem_toArray, List.getElem_cons_succ, List.getElem_cons_zero, List.setIfInBounds_toArray, List.set_cons_zero, List.set_cons_succ]
  refine wpAnyH_take (i := 7) (v := .pointer (some ⟨b, 2, none⟩)) rfl (by kernel_rfl) (by kernel_rfl) (by kernel_rfl) (fun _ _ _ h => h) (Or.inl ⟨by rfl, fun w' _ => by go_simp⟩) hS ?_
  simp only [Act.put, List.getElem_toArray, List.getElem_cons_succ, List.getElem_cons_zero, List.setIfInBounds_toArray, List.set_cons_zero, List.set_cons_succ]
  refine wpAnyH_take (i := 8) (v := .agg (wc mo.old).toArray) rfl (by kernel_rfl) (by kernel_rfl) (by kernel_rfl) (fun _ _ _ h => h) (yieldsIf_load_mid (by rfl) 34 (.tmp 117) rfl b 2 rfl (wc mo.old) _ (fun w' h => Rd.old (mo := { mo with pc := 6 }) h) Tryz.underlying34 rfl infoWrd) hS ?_
  simp only [Act.put, List.getElem_toArray, List.getElem_cons_succ, List.getElem_cons_zero, List.setIfInBounds_toArray, List.set_cons_zero, List.set_cons_succ]
  refine wpAnyH_take (i := 9) (v := .pointer (some ⟨b, 0, none⟩)) rfl (by kernel_rfl) (by kernel_rfl) (by kernel_rfl) (fun _ _ _ h => h) (Or.inl ⟨by rfl, fun w' _ => by go_simp⟩) hS ?_
  simp only [Act.put, List.getElem_toArray, List.getElem_cons_succ, List.getElem_cons_zero, List.setIfInBounds_toArray, List.set_cons_zero, List.set_cons_succ]
  refine wpAnyH_take (i := 10) (v := .pointer (some ⟨b, 0, none⟩)) rfl (by kernel_rfl) (by kernel_rfl) (by kernel_rfl) (fun _ _ _ h => h) (Or.inl ⟨by rfl, fun w' _ => by go_simp⟩) hS ?_
  simp only [Act.put, List.getElem_toArray, List.getElem_cons_succ, List.getElem_cons_zero, List.setIfInBounds_toArray, List.set_cons_zero, List.set_cons_succ]
  refine wpAnyH_take (i := 11) (v := .pointer (some ⟨b, 7, none⟩)) rfl (by kernel_rfl) (by kernel_rfl) (by kernel_rfl) (fun _ _ _ h => h) (Or.inl ⟨by rfl, fun w' _ => by go_simp⟩) hS ?_
  simp only [Act.put, List.getElem_toArray, List.getElem_cons_succ, List.getElem_cons_zero, List.setIfInBounds_toArray, List.set_cons_zero, List.set_cons_succ]
  refine wpAnyH_take (i := 12) (v := .agg (wc mo.node).toArray) rfl (by kernel_rfl) (by kernel_rfl) (by kernel_rfl) (fun _ _ _ h => h) (yieldsIf_load_mid (by rfl) 34 (.tmp 121) rfl b 7 rfl (wc mo.node) _ (fun w' h => Rd.node (mo := { mo with pc := 6 }) h) Tryz.underlying34 rfl infoWrd) hS ?_
  simp only [Act.put, List.getElem_toArray, List.getElem_cons_succ, List.getElem_cons_zero, List.setIfInBounds_toArray, List.set_cons_zero, List.set_cons_succ]
  refine wpAnyH_ready (rs := [13]) (by kernel_rfl) (by simp) ?_
  refine AllReadyH.cons rfl (fun K hK => ?_) AllReadyH.nil
  rw [if_pos (by rfl)]
  go_simp
  refine (To_any _ _ _ _ _ _ _ _ _ _ _).mono ?_
  rintro e wk ⟨rfl, hb⟩
  rw [ht]
  replace HN := Lib.hid (HN.out.below hb)
  refine hK.out _ _ ⟨hS.1.below hb, hS.2.below hb⟩ (fun _ => ?_)
  replace hS := And.intro (hS.1.below hb) (hS.2.below hb)
  clear hb hK K
  refine wpAnyH_take (i := 14) (v := .agg (clc { zc with kind := 5, old := mo.old, new := mo.old.to mo.node }).toArray) rfl (by kernel_rfl) (by kernel_rfl) (by kernel_rfl) (fun _ _ _ h => h) (Or.inl ⟨by rfl, fun w' _ => by kernel_rfl⟩) hS ?_
  simp only [Act.put, List.getElem_toArray, List.getElem_cons_succ, List.getElem_cons_zero, List.setIfInBounds_toArray, List.set_cons_zero, List.set_cons_succ]
  refine wpAnyH_ready (rs := [15]) (by kernel_rfl) (by simp) ?_
  refine AllReadyH.cons rfl (fun K hK => ?_) AllReadyH.nil
  refine step_store_q HN.out rfl (.tmp 2) (.tmp 124) rfl (by rfl) { zc with kind := 5, old := mo.old, new := mo.old.to mo.node } (by rfl) ?_
  intro W1 R1 hR1
  refine hK.out _ _ ⟨hR1 _ _ _ (by decide) hS.1, hR1 _ _ _ (by decide) hS.2⟩ (fun _ => ?_)
  refine wpAnyH_done (by kernel_rfl) ?_ _
  replace R1 := Lib.hid R1
  clear hK K hS HN hR1
  go_wp2
  exact bodyPost_ret (v := clv { zc with kind := 5, old := mo.old, new := mo.old.to mo.node }) (results_cell Tryz.results41 _ (by rfl) R1.out.load) rfl ⟨rfl, Lib.hid R1.out.hm, Lib.hid R1.out.off⟩
set_option maxRecDepth 100000 in
set_option maxHeartbeats 1000000 in
theorem next_4 (h : RtAt w r sv fv nv m) (hm : BlkW w b 36 (moc r mo).toArray) (hp : mo.pc = 4) (hlx : m.st.last = x) (hx : x.2 = true) (hs : Hid (0 ≤ x.1.slot ∧ x.1.slot ≤ 1000000)) (hg : Hid (0 ≤ x.1.gen ∧ x.1.gen ≤ 1000000000)) :
    Calls Tryz.prog 41 #[.pointer (some ⟨b, 0, none⟩)] w (NPost w b r { mo with pc := 5, node := x.1 } { zc with kind := 4, s := x.1.slot, g := x.1.gen, f := 1, new := nw (x.1.slot + 2000 * x.1.gen) }) := by
  have hl := Lib.hid h
  have hz := hm.lt
  have c0 : w.cell? ⟨b, 0, none⟩ = some (.pointer (some ⟨r, 0, none⟩)) := hm.cell 0
  have HM := Lib.hid hm
  clear h hm
  go_enter Tryz.func41, Tryz.ntmps41
  go_wp2_with fail
  refine (Reply_is (hl.out.below (below_alloc (Below.refl _ _) _))).mono ?_
  rintro e w1 ⟨rfl, hb⟩
  rw [hlx]
  clear hlx
  unfold rpv
  clear c0
  replace hx := Lib.hid hx
  have HN : Hid (Nx w (w1.alloc (.cells (rpA x) 63)) b w.heap.size w1.heap.size r mo x) := by
    have b1 := below_alloc (Below.refl w.heap.size w) (.cells (clc zc).toArray 51)
    have b2 := below_alloc (Below.refl w1.heap.size w1) (.cells (rpA x) 63)
    exact Lib.hid ⟨((HM.out.below b1).below hb).below b2, ((BlkW.new _ _ _).below hb).below b2, BlkW.new _ _ _, ((Off.of_below b1).then hb).then b2, Nat.le_refl _⟩
  clear hb hl HM
  go_wp2_with fail
  simp only [show (w1.alloc (.cells #[.int .i64 x.1.slot, .int .i64 x.1.gen, .int .i64 x.1.tag, .int .i64 x.1.num, .bool x.1.mark, .bool x.2] 63)) = w1.alloc (.cells (rpA x) 63) from rfl]
  generalize w1.alloc (.cells (rpA x) 63) = W at HN ⊢
  generalize w.heap.size = q at HN ⊢
  generalize w1.heap.size = xb at HN ⊢
  refine (Bd.Root_yes 0 ⟨by decide, by decide⟩ _).mono ?_
  rintro e w2 ⟨rfl, hb⟩
  replace HN := Lib.hid (HN.out.below hb)
  clear hb
  unfold Bd.ad
  go_upto_region 3 with fail
  have HA := Lib.hid (BlkW.new w2 47 #[.int .i64 0, .int .i64 0, .int .i64 0])
  replace HN := Lib.hid (HN.out.below (below_alloc (Below.refl w2.heap.size w2) (.cells #[.int .i64 0, .int .i64 0, .int .i64 0] 47)))
  generalize w2.alloc (.cells #[.int .i64 0, .int .i64 0, .int .i64 0] 47) = W at HN HA ⊢
  generalize w2.heap.size = ab at HA ⊢
  have hne := BlkW.ne_ HA.out HN.out.hm (by decide)
  have p1 : W.cell? ⟨b, 1, none⟩ = some (.int .i64 (mo.pc : Int)) := HN.out.hm.cell 1
  rw [hp] at p1
  have hz := HN.out.hm.lt
  have f1 : W.frozen? ⟨b, 1, none⟩ = false := HN.out.hm.frozen 1
  have z1 : wrap64 (((4 : Nat) : Int) + 1) = 5 := IntWalk.wrap64_in _ ⟨by decide, by decide⟩
  go_upto_region 4 with fail
  replace HN : Hid (Nx w (W.setCell ⟨b, 1, none⟩ (.int .i64 5)) b q xb r { mo with pc := 5 } x) := Lib.hid (HN.out.puts 1 [.int .i64 5] rfl)
  replace HA : Hid (BlkW (W.setCell ⟨b, 1, none⟩ (.int .i64 5)) ab 47 #[.int .i64 0, .int .i64 0, .int .i64 0]) := Lib.hid (HA.out.far hne _)
  clear p1 f1 hz z1
  generalize W.setCell ⟨b, 1, none⟩ (.int .i64 5) = W at HN HA ⊢
  have p1 : W.cell? ⟨b, 1, none⟩ = some (.int .i64 5) := HN.out.hm.cell 1
  have hz := HN.out.hm.lt
  go_upto_region 18 with fail
  obtain ⟨x0, x1, x2, x3, x4, x5⟩ := HN.out.reps
  have zx := HN.out.hx.lt
  rw [hx.out] at x5
  have f0 : W.frozen? ⟨b, 7, none⟩ = false := HN.out.hm.frozen 7
  have f1 : W.frozen? ⟨b, 8, none⟩ = false := HN.out.hm.frozen 8
  have f2 : W.frozen? ⟨b, 9, none⟩ = false := HN.out.hm.frozen 9
  have f3 : W.frozen? ⟨b, 10, none⟩ = false := HN.out.hm.frozen 10
  have f4 : W.frozen? ⟨b, 11, none⟩ = false := HN.out.hm.frozen 11
  have g0 : ∃ v, W.cell? ⟨b, 7, none⟩ = some v := ⟨_, HN.out.hm.cell 7⟩
  obtain ⟨v0, g0⟩ := g0
  have g1 : ∃ v, W.cell? ⟨b, 8, none⟩ = some v := ⟨_, HN.out.hm.cell 8⟩
  obtain ⟨v1, g1⟩ := g1
  have g2 : ∃ v, W.cell? ⟨b, 9, none⟩ = some v := ⟨_, HN.out.hm.cell 9⟩
  obtain ⟨v2, g2⟩ := g2
  have g3 : ∃ v, W.cell? ⟨b, 10, none⟩ = some v := ⟨_, HN.out.hm.cell 10⟩
  obtain ⟨v3, g3⟩ := g3
  have g4 : ∃ v, W.cell? ⟨b, 11, none⟩ = some v := ⟨_, HN.out.hm.cell 11⟩
  obtain ⟨v4, g4⟩ := g4
  go_upto_region 22 with fail
  replace HN : Hid (Nx w (((((W.setCell ⟨b, 7, none⟩ (.int .i64 x.1.slot)).setCell ⟨b, 8, none⟩ (.int .i64 x.1.gen)).setCell ⟨b, 9, none⟩ (.int .i64 x.1.tag)).setCell ⟨b, 10, none⟩ (.int .i64 x.1.num)).setCell ⟨b, 11, none⟩ (.bool x.1.mark)) b q xb r { mo with pc := 5, node := x.1 } x) := Lib.hid (HN.out.puts 7 [.int .i64 x.1.slot, .int .i64 x.1.gen, .int .i64 x.1.tag, .int .i64 x.1.num, .bool x.1.mark] rfl)
  replace HA : Hid (BlkW (((((W.setCell ⟨b, 7, none⟩ (.int .i64 x.1.slot)).setCell ⟨b, 8, none⟩ (.int .i64 x.1.gen)).setCell ⟨b, 9, none⟩ (.int .i64 x.1.tag)).setCell ⟨b, 10, none⟩ (.int .i64 x.1.num)).setCell ⟨b, 11, none⟩ (.bool x.1.mark)) ab 47 #[.int .i64 0, .int .i64 0, .int .i64 0]) := Lib.hid (((((HA.out.far hne _).far hne _).far hne _).far hne _).far hne _)
  clear x0 x1 x2 x3 x4 x5 zx f0 g0 f1 g1 f2 g2 f3 g3 f4 g4 p1 hz
  generalize (((((W.setCell ⟨b, 7, none⟩ (.int .i64 x.1.slot)).setCell ⟨b, 8, none⟩ (.int .i64 x.1.gen)).setCell ⟨b, 9, none⟩ (.int .i64 x.1.tag)).setCell ⟨b, 10, none⟩ (.int .i64 x.1.num)).setCell ⟨b, 11, none⟩ (.bool x.1.mark)) = W at HN HA ⊢
  have hz := HN.out.hm.lt
  refine wp_region_held (S := Rd b ab r { mo with pc := 5, node := x.1 }) (by kernel_rfl) ?_
  have hS : Rd b ab r { mo with pc := 5, node := x.1 } W.drew := ⟨HN.out.hm.below (Below.refl _ _).drew, HA.out.below (Below.refl _ _).drew⟩
  replace HN := Lib.hid (HN.out.below (Below.refl _ _).drew)
  clear HA hz
  try clear p1
  show wpAnyH _ _ _ _ _ 13 #[false, false, false, false, false, false, false, false, false, false, false, false, false] _ W.drew
  generalize W.drew = W at HN hS ⊢
  refine wpAnyH_take (i := 0) (v := .pointer (some ⟨b, 0, none⟩)) rfl (by kernel_rfl) (by kernel_rfl) (by kernel_rfl) (fun _ _ _ h => h) (Or.inl ⟨by rfl, fun w' _ => by go_simp⟩) hS ?_
  simp only [Act.put, List.getElem_toArray, List.getElem_cons_succ, List.getElem_cons_zero, List.setIfInBounds_toArray, List.set_cons_zero, List.set_cons_succ]
  refine wpAnyH_take (i := 1) (v := .pointer (some ⟨b, 0, none⟩)) rfl (by kernel_rfl) (by kernel_rfl) (by kernel_rfl) (fun _ _ _ h => h) (Or.inl ⟨by rfl, fun w' _ => by go_simp⟩) hS ?_
  simp only [Act.put, List.getElem_toArray, List.getElem_cons_succ, List.getElem_cons_zero, List.setIfInBounds_toArray, List.set_cons_zero, List.set_cons_succ]
  refine wpAnyH_take (i := 2) (v := .pointer (some ⟨b, 7, none⟩)) rfl (by kernel_rfl) (by kernel_rfl) (by kernel_rfl) (fun _ _ _ h => h) (Or.inl ⟨by rfl, fun w' _ => by go_simp⟩) hS ?_
  simp only [Act.put, List.getElem_toArray, List.getElem_cons_succ, List.getElem_cons_zero, List.setIfInBounds_toArray, List.set_cons_zero, List.set_cons_succ]
  refine wpAnyH_take (i := 3) (v := .agg (wc x.1).toArray) rfl (by kernel_rfl) (by kernel_rfl) (by kernel_rfl) (fun _ _ _ h => h) (yieldsIf_load_mid (by rfl) 34 (.tmp 98) rfl b 7 rfl (wc x.1) _ (fun w' h => Rd.node (mo := { mo with pc := 5, node := x.1 }) h) Tryz.underlying34 rfl infoWrd) hS ?_
  simp only [Act.put, List.getElem_toArray, List.getElem_cons_succ, List.getElem_cons_zero, List.setIfInBounds_toArray, List.set_cons_zero, List.set_cons_succ]
  refine wpAnyH_take (i := 5) (v := .pointer (some ⟨b, 0, none⟩)) rfl (by kernel_rfl) (by kernel_rfl) (by kernel_rfl) (fun _ _ _ h => h) (Or.inl ⟨by rfl, fun w' _ => by go_simp⟩) hS ?_
  simp only [Act.put, List.getElem_toArray, List.getElem_cons_succ, List.getElem_cons_zero, List.setIfInBounds_toArray, List.set_cons_zero, List.set_cons_succ]
  refine wpAnyH_take (i := 6) (v := .pointer (some ⟨b, 0, none⟩)) rfl (by kernel_rfl) (by kernel_rfl) (by kernel_rfl) (fun _ _ _ h => h) (Or.inl ⟨by rfl, fun w' _ => by go_simp⟩) hS ?_
  simp only [Act.put, List.getElem_toArray, List.getElem_cons_succ, List.getElem_cons_zero, List.setIfInBounds_toArray, List.set_cons_zero, List.set_cons_succ]
  refine wpAnyH_take (i := 7) (v := .pointer (some ⟨b, 7, none⟩)) rfl (by kernel_rfl) (by kernel_rfl) (by kernel_rfl) (fun _ _ _ h => h) (Or.inl ⟨by rfl, fun w' _ => by go_simp⟩) hS ?_
  simp only [Act.put, List.getElem_toArray, List.getElem_cons_succ, List.getElem_cons_zero, List.setIfInBounds_toArray, List.set_cons_zero, List.set_cons_succ]
  refine wpAnyH_take (i := 8) (v := .agg (wc x.1).toArray) rfl (by kernel_rfl) (by kernel_rfl) (by kernel_rfl) (fun _ _ _ h => h) (yieldsIf_load_mid (by rfl) 34 (.tmp 103) rfl b 7 rfl (wc x.1) _ (fun w' h => Rd.node (mo := { mo with pc := 5, node := x.1 }) h) Tryz.underlying34 rfl infoWrd) hS ?_
  simp only [Act.put, List.getElem_toArray, List.getElem_cons_succ, List.getElem_cons_zero, List.setIfInBounds_toArray, List.set_cons_zero, List.set_cons_succ]
  refine wpAnyH_ready (rs := [4]) (by kernel_rfl) (by simp) ?_
  refine AllReadyH.cons rfl (fun K hK => ?_) AllReadyH.nil
  rw [if_pos (by rfl)]
  go_simp
  refine (field_any _ _ _ _ _ _ _).mono ?_
  rintro e wk ⟨rfl, hb⟩
  replace HN := Lib.hid (HN.out.below hb)
  refine hK.out _ _ ⟨hS.1.below hb, hS.2.below hb⟩ (fun _ => ?_)
  replace hS := And.intro (hS.1.below hb) (hS.2.below hb)
  clear hb hK K
  refine wpAnyH_ready (rs := [9]) (by kernel_rfl) (by simp) ?_
  refine AllReadyH.cons rfl (fun K hK => ?_) AllReadyH.nil
  rw [if_pos (by rfl)]
  go_simp
  refine (mark_any _ _ _ _ _ hs.out hg.out _).mono ?_
  rintro e wk ⟨rfl, hb⟩
  replace HN := Lib.hid (HN.out.below hb)
  refine hK.out _ _ ⟨hS.1.below hb, hS.2.below hb⟩ (fun _ => ?_)
  replace hS := And.intro (hS.1.below hb) (hS.2.below hb)
  clear hb hK K
  refine wpAnyH_ready (rs := [10]) (by kernel_rfl) (by simp) ?_
  refine AllReadyH.cons rfl (fun K hK => ?_) AllReadyH.nil
  rw [if_pos (by rfl)]
  go_simp
  refine (Num_any _ _).mono ?_
  rintro e wk ⟨rfl, hb⟩
  replace HN := Lib.hid (HN.out.below hb)
  refine hK.out _ _ ⟨hS.1.below hb, hS.2.below hb⟩ (fun _ => ?_)
  replace hS := And.intro (hS.1.below hb) (hS.2.below hb)
  clear hb hK K
  refine wpAnyH_take (i := 11) (v := .agg (clc { zc with kind := 4, s := x.1.slot, g := x.1.gen, f := 1, new := nw (x.1.slot + 2000 * x.1.gen) }).toArray) rfl (by kernel_rfl) (by kernel_rfl) (by kernel_rfl) (fun _ _ _ h => h) (Or.inl ⟨by rfl, fun w' _ => by kernel_rfl⟩) hS ?_
  simp only [Act.put, List.getElem_toArray, List.getElem_cons_succ, List.getElem_cons_zero, List.setIfInBounds_toArray, List.set_cons_zero, List.set_cons_succ]
  refine wpAnyH_ready (rs := [12]) (by kernel_rfl) (by simp) ?_
  refine AllReadyH.cons rfl (fun K hK => ?_) AllReadyH.nil
  refine step_store_q HN.out rfl (.tmp 2) (.tmp 107) rfl (by rfl) { zc with kind := 4, s := x.1.slot, g := x.1.gen, f := 1, new := nw (x.1.slot + 2000 * x.1.gen) } (by rfl) ?_
  intro W1 R1 hR1
  refine hK.out _ _ ⟨hR1 _ _ _ (by decide) hS.1, hR1 _ _ _ (by decide) hS.2⟩ (fun _ => ?_)
  refine wpAnyH_done (by kernel_rfl) ?_ _
  replace R1 := Lib.hid R1
  clear hK K hS HN hR1
  go_wp2
  exact bodyPost_ret (v := clv { zc with kind := 4, s := x.1.slot, g := x.1.gen, f := 1, new := nw (x.1.slot + 2000 * x.1.gen) }) (results_cell Tryz.results41 _ (by rfl) R1.out.load) rfl ⟨rfl, Lib.hid R1.out.hm, Lib.hid R1.out.off⟩
end
end Go.Proofs.YtjilhncnbkaebaaGreatDoor
