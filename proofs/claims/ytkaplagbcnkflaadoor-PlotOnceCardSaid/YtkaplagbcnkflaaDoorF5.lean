/- plot: take. A template (fill.py). -/
import Derived.Test.YtkaplagbcnkflaaDoorF4
import Derived.OwnWalk
namespace Go.Proofs.YtkaplagbcnkflaaDoor
open Go.RowKit Go.Extern.Stop Go.Stop Go.Extern Go.Sort
section
variable {w : World} {E : Flt → Addr} {B p bs bb : Nat} {v fv : Value} {t : St}
/-- Behind an append to the row of free slots. -/
theorem Rep.regrow {W w4 : World} {v' : Value} {l : List Nat} (h : Rep W E B p bs bb v fv t) (hg : W.grownBy w4 v.ownBlock) (hown : w4.ownsRow B 3 1 v' l.length (frow l)) : Rep (w4.setCell ⟨p, 2, none⟩ v') E B p bs bb v' fv { t with free := l } := by
  obtain ⟨n1, n2, n3, n4, n5, n6⟩ := h.ne
  have hp4 : BlkW w4 p 58 (pc bs bb v fv t) := (hg.block _ h.hp.lt (fun e => n4 e.symm)).trans h.hp
  have hs := grown_set w4 p 2 v'
  have lt4 : ∀ {k}, k < W.heap.size → k < w4.heap.size := fun hk => Nat.lt_of_lt_of_le hk hg.size
  refine ⟨hp4.set 2 v', h.slots.block ((hs.block _ (lt4 h.slots.lt) (by simpa using Ne.symm n1)).trans (hg.block _ h.slots.lt (fun e => n5 e.symm))), h.brd.block ((hs.block _ (lt4 h.brd.lt) (by simpa using Ne.symm n2)).trans (hg.block _ h.brd.lt (fun e => n6 e.symm))),
    hown.kept hs (.inr (own_ne hown hp4 (by decide))), h.fault.keep (fun b cs hk => (hs.block _ (lt4 hk.lt) (by
      intro e
      have e : b = p := by simpa using e
      subst e
      exact BlkW.ne_ hk h.hp (by decide) rfl)).trans (hg.block _ hk.lt (fun e => own_ne h.free hk (by decide) e.symm))), h.bp, h.bbs, h.bbb⟩
theorem info3 : (Tryd.prog.info? 3).map (fun i => (i.zero, i.size, i.bytes)) = some (some (.int .i64 0), 1, 8) := by kernel_rfl
theorem frow_cons (i : Nat) (l : List Nat) : frow (i :: l) = frow l ++ [.int .i64 ((i : Int) + 1)] := by simp [frow]
set_option maxRecDepth 100000 in
set_option maxHeartbeats 2000000 in
theorem take_any (h : Rep w E B p bs bb v fv t) (o : t.Ok) (i : Nat) (hi : i < t.n) :
    Calls Tryd.prog 23 #[.pointer (some ⟨p, 0, none⟩), .int .i64 ((i : Int) + 1)] w (GivePost w E B p bs bb v (t.take i, zw, true)) := by
  have hn := o.size
  have hl : t.free.length ≤ 1024 := Nat.le_trans (nodup_le t.n t.free o.nodup o.lt) hn
  have HR := Lib.hid h
  have R1 := Lib.hid (h.inSlots (i * 52 + 1) [.bool false] (h.slots.flag hi false))
  have O1 := Lib.hid ((Off.refl (Mine p bs bb v) w).sets (b := bs) (.inl (.inr (.inl rfl))) [.bool false] (i * 52 + 1))
  have c1 : w.cell? ⟨bs, i * 52 + 1, none⟩ = some (.bool (t.slot i).given) := h.slots.head i hi 1 _ rfl
  have f1 : w.frozen? ⟨bs, i * 52 + 1, none⟩ = false := by
    obtain ⟨cs, hcs, _⟩ := h.slots.blk
    exact hcs.frozen _
  have c2 := h.pcells.2.2.1
  have f2 := h.hp.frozen 2
  have hz := h.hp.lt
  have hz1 : p < w.heap.size + 1 := by omega
  have lz := h.slots.lt
  have lz1 : bs < w.heap.size + 1 := by omega
  have hpb := h.ne.1
  have hpb2 : ¬ bs = p := fun e => hpb e.symm
  have hB := h.base_lt
  obtain ⟨i0, hi0, hz0, hz01, hz02⟩ := info_parts info3
  clear h o
  go_enter Tryd.func23, Tryd.ntmps23
  go_wp2_with (first
    | (go_at_call 33; refine (slot_in (HR.out.alloc _) hn i hi).mono ?_; rintro e w' ⟨rfl, rfl⟩)
    | (at_builtin; refine wpList_append_own_at _ rfl _ _ 48 rfl B 3 i0 (.int .i64 0) 1 8 Tryd.underlying48 hi0 hz0 hz01 hz02 rfl (by decide) v t.free.length (frow t.free) (by rfl) ((R1.out.alloc _).alloc _).free ⟨w.heap.size + 1, 0, none⟩ 1 1 [.int .i64 ((i : Int) + 1)] (by rfl) rfl ?c1 ?c2 ?c3 ?c4 ?c5 ?_))
  case c1 =>
    have := cell_one_new ((w.setCell ⟨bs, i * 52 + 1, none⟩ (.bool false)).alloc (.cells #[.int .i64 0, .int .i64 0, .int .i64 0, .int .i64 0, .bool false, .bool false] 39)) (.int .i64 ((i : Int) + 1)) 3
    rw [World.size_alloc, size_setCell] at this
    exact this
  case c2 => intro u hu; simp at hu; subst hu; rfl
  case c3 => simp [maxLen]; omega
  case c4 => omega
  case c5 => rw [World.size_alloc, World.size_alloc, size_setCell]; omega
  intro v' w4 hown' hgrow _ hat
  obtain ⟨g', cap', rfl, _, _⟩ := hown'.form (by omega)
  have R2 := (R1.out.alloc (.cells #[.int .i64 0, .int .i64 0, .int .i64 0, .int .i64 0, .bool false, .bool false] 39)).alloc (.cells #[.int .i64 ((i : Int) + 1)] 3)
  have O2 := (O1.out.alloc (.cells #[.int .i64 0, .int .i64 0, .int .i64 0, .int .i64 0, .bool false, .bool false] 39)).alloc (.cells #[.int .i64 ((i : Int) + 1)] 3)
  have b2 : BlkW (((w.setCells bs (i * 52 + 1) [.bool false]).alloc (.cells #[.int .i64 0, .int .i64 0, .int .i64 0, .int .i64 0, .bool false, .bool false] 39)).alloc (.cells #[.int .i64 ((i : Int) + 1)] 3)) w.heap.size 39 #[.int .i64 0, .int .i64 0, .int .i64 0, .int .i64 0, .bool false, .bool false] := by
    have := (BlkW.new (w.setCells bs (i * 52 + 1) [.bool false]) 39 #[.int .i64 0, .int .i64 0, .int .i64 0, .int .i64 0, .bool false, .bool false]).alloc (.cells #[.int .i64 ((i : Int) + 1)] 3)
    have e : (w.setCells bs (i * 52 + 1) [.bool false]).heap.size = w.heap.size := size_setCell _ _ _
    rwa [e] at this
  have b4 : BlkW w4 w.heap.size 39 #[.int .i64 0, .int .i64 0, .int .i64 0, .int .i64 0, .bool false, .bool false] := (hgrow.block _ b2.lt (fun e => own_ne R2.free b2 (by decide) e.symm)).trans b2
  have p4 := (hgrow.block _ R2.hp.lt (fun e => R2.ne.2.2.2.1 e.symm)).trans R2.hp
  have R4 := R2.regrow (l := i :: t.free) hgrow (by rw [frow_cons]; exact hown')
  have O4 := (O2.grown hgrow (fun k e => .inl (.inr (.inr (.inr e))))).set (b := p) (.inl (.inl rfl)) 2 (.slice (some ⟨g', 0, none⟩) (t.free.length + 1) cap')
  have hpz : ¬ w.heap.size = p := by omega
  have b5 := b4.far (b := p) (i := 2) hpz (.slice (some ⟨g', 0, none⟩) (t.free.length + 1) cap')
  have hat2 : (Value.slice (some ⟨g', 0, none⟩) (t.free.length + 1) cap').ownBlock = v.ownBlock ∨ ∀ k, (Value.slice (some ⟨g', 0, none⟩) (t.free.length + 1) cap').ownBlock = some k → w.heap.size ≤ k := by
    rcases hat with e | e
    · exact .inl e
    · refine .inr (fun k hk => ?_)
      rw [e] at hk
      have hk := Option.some.inj hk
      omega
  have g2 : w4.cell? ⟨p, 2, none⟩ = some v := by
    have := BlkW.cell p4 2
    exact this
  have g3 := BlkW.frozen p4 2
  have f0 := fun x => b4.frozen x
  have a0 := b4.cell 0
  have a1 := b4.cell 1
  have a2 := b4.cell 2
  have a3 := b4.cell 3
  have a4 := b4.cell 4
  have a5 := b4.cell 5
  simp only [List.getElem?_toArray, List.getElem?_cons_succ, List.getElem?_cons_zero] at a0 a1 a2 a3 a4 a5
  have RB := Lib.hid (show RB _ E B p bs bb _ fv _ w.heap.size from ⟨R4, _, b5⟩)
  have HO := Lib.hid O4
  have HA := Lib.hid hat2
  clear R2 O2 b2 b4 p4 R4 O4 b5 hown' hgrow hat hat2 c1 f1 c2 f2
  go_wp2
  refine bodyPost_ret (v := .agg #[.int .i64 0, .int .i64 0, .int .i64 0, .int .i64 0, .bool false, .bool true]) (by simp [results, Tryd.results23, go_sem, a0, a1, a2, a3, a4, a5]) rfl ?_
  exact ⟨_, fv, rfl, ((((((RB.out.set 0 _).set 1 _).set 2 _).set 3 _).set 4 _).set 5 _).1, (((((HO.out.set (.inr (Nat.le_refl _)) 0 _).set (.inr (Nat.le_refl _)) 1 _).set (.inr (Nat.le_refl _)) 2 _).set (.inr (Nat.le_refl _)) 3 _).set (.inr (Nat.le_refl _)) 4 _).set (.inr (Nat.le_refl _)) 5 _, HA.out⟩
end
end Go.Proofs.YtkaplagbcnkflaaDoor
