/- plot: Do, at every access. A template (fill.py). -/
/- plot: Steps, Live, Made, Peek, Fault. A template (fill.py). -/
/- plot: New. A template (fill.py). -/
/- plot: one access behind the other, as the laws use it. A template (fill.py). -/
import Derived.Test.YtihjklimcchkhaaGreatDoorF7
import Derived.LoopTactic
namespace Go.Proofs.YtihjklimcchkhaaGreatDoor
open Go.RowKit Go.Extern.Stop Go.Stop Go.Extern Go.Sort
section
variable {w : World} {E : Flt → Addr} {B p bs bb : Nat} {v fv : Value} {t : St}
theorem do_any (h : Rep w E B p bs bb v fv t) (L : Env w E) (o : t.Ok) (hB : 9 ≤ B) (ht : t.steps < 900000) (a : Ac) (hc : t.can a = true) :
    Calls Tryz.prog 26 #[.pointer (some ⟨p, 0, none⟩), av a] w (DoPost w E B p bs bb v (t.step a)) := by
  unfold St.step St.act
  cases hw : ({ t with steps := t.steps + 1 } : St).wrong a with
  | some x =>
    obtain ⟨k, s, g, f, d, d'⟩ := a
    exact do_wrong h L o hB ht k s g f d d' x hc hw
  | none =>
    obtain ⟨k, s, g, f, d, d'⟩ := a
    dsimp only
    by_cases h4 : k = 4
    · subst h4
      rw [if_pos rfl]
      exact do_new h L o hB ht s g f d d' hc
    · rw [if_neg h4]
      by_cases h5 : k = 5
      · subst h5
        rw [if_pos rfl]
        have hr : 1 ≤ d.slot ∧ d.slot ≤ t.n := by
          unfold St.can at hc
          dsimp only at hc
          rw [if_neg (by decide), if_neg (by decide), if_pos rfl] at hc
          simpa using hc
        obtain ⟨i, hi⟩ : ∃ i : Nat, (i : Int) + 1 = d.slot := ⟨(d.slot - 1).toNat, by omega⟩
        obtain ⟨ds, dg, dt, dn, dm⟩ := d
        dsimp only at hi hr
        subst hi
        have e : ((i : Int) + 1 - 1).toNat = i := by omega
        dsimp only
        rw [e]
        exact do_free h L o hB ht s g f i dg dt dn dm d' (by omega) hc hw
      · rw [if_neg h5]
        have hk : k = 1 ∨ k = 2 ∨ k = 3 := by
          unfold St.can at hc
          dsimp only at hc
          by_cases hk : k = 1 ∨ k = 2 ∨ k = 3
          · exact hk
          · rw [if_neg hk, if_neg h4, if_neg h5] at hc
            cases hc
        cases hl : ({ t with steps := t.steps + 1 } : St).loc s g f with
        | some l => exact do_touch h L o hB ht k s g f d d' l hk hl hc hw
        | none =>
          exfalso
          unfold St.can at hc
          dsimp only at hc
          rw [if_pos hk, show t.loc s g f = none from hl] at hc
          cases hc
end
end Go.Proofs.YtihjklimcchkhaaGreatDoor

namespace Go.Proofs.YtihjklimcchkhaaGreatDoor
open Go.RowKit Go.Extern.Stop Go.Stop Go.Extern Go.Sort
section
variable {w : World} {E : Flt → Addr} {B p bs bb : Nat} {v fv : Value} {t : St}
theorem live_any (h : Rep w E B p bs bb v fv t) (o : t.Ok) :
    Calls Tryz.prog 22 #[.pointer (some ⟨p, 0, none⟩)] w fun e w' => e = .returned (.int .i64 ((t.n : Int) - t.free.length)) ∧ Below w.heap.size w w' := by
  have c0 := h.pcells.1
  have c2 := h.pcells.2.2.1
  have hl : t.free.length ≤ t.n := nodup_le t.n t.free o.nodup o.lt
  have hn := o.size
  obtain ⟨ao, c, hv⟩ : ∃ ao c, v = .slice ao t.free.length c := by
    rcases h.free.2 with ⟨rfl, e⟩ | ⟨g, cap, cur, rfl, _⟩
    · exact ⟨none, 0, by rw [e]⟩
    · exact ⟨_, _, rfl⟩
  rw [hv] at c2
  obtain ⟨L, hL⟩ : ∃ L, L = t.free.length := ⟨_, rfl⟩
  rw [← hL] at c2 hl ⊢
  have j1 : (L : Int) ≤ t.n := by omega
  have j2 : (t.n : Int) ≤ 1024 := by omega
  clear h o hv hL
  have hsub : IntKind.i64.wrap ((t.n : Int) - L) = (t.n : Int) - L := IntWalk.i64_in _ (by omega)
  go_enter Tryz.func22, Tryz.ntmps22
  go_wp2
  go_quiet (fail)
  go_wp2
  go_ret
  exact ⟨rfl, ⟨rfl, rfl, rfl, Nat.le_refl _, fun _ _ => rfl⟩⟩
/-- What Peek answers. -/
def St.peek (t : St) (s g f : Int) : Option Wd :=
  match t.loc s g f, t.miss s g .freed with
  | some l, none => some (t.read l)
  | _, _ => none
def peekV : Option Wd → Value
  | none => .tuple #[.agg #[.int .i64 0, .int .i64 0, .int .i64 0, .int .i64 0, .bool false], .bool false]
  | some d => .tuple #[.agg #[.int .i64 d.slot, .int .i64 d.gen, .int .i64 d.tag, .int .i64 d.num, .bool d.mark], .bool true]
/-- In the midst of Peek. -/
structure PkSt (w W : World) (E : Flt → Addr) (B p bs bb : Nat) (v fv : Value) (t : St) (s g f : Int) : Prop where
  rep : Rep W E B p bs bb v fv t
  below : Below w.heap.size w W
  acc : BlkW W w.heap.size 47 #[.int .i64 s, .int .i64 g, .int .i64 f]
  res : BlkW W (w.heap.size + 1) 34 #[.int .i64 0, .int .i64 0, .int .i64 0, .int .i64 0, .bool false]
  env : Env W E
theorem PkSt.start (h : Rep w E B p bs bb v fv t) (L : Env w E) (s g f : Int) : PkSt w ((w.alloc (.cells #[.int .i64 s, .int .i64 g, .int .i64 f] 47)).alloc (.cells #[.int .i64 0, .int .i64 0, .int .i64 0, .int .i64 0, .bool false] 34)) E B p bs bb v fv t s g f :=
  ⟨(h.alloc _).alloc _, below_alloc (below_alloc (Below.refl _ _) _) _, (BlkW.new _ _ _).alloc _, blk_second _ _ _ _ _ rfl, L.keep (below_alloc (below_alloc (Below.refl _ _) _) _)⟩
theorem PkSt.then {W W' : World} {s g f : Int} (h : PkSt w W E B p bs bb v fv t s g f) (hb : Below W.heap.size W W') : PkSt w W' E B p bs bb v fv t s g f :=
  ⟨h.rep.keep hb, below_trans h.below hb, h.acc.below hb, h.res.below hb, h.env.keep hb⟩
set_option maxRecDepth 100000 in
set_option maxHeartbeats 4000000 in
theorem peek_any (h : Rep w E B p bs bb v fv t) (L : Env w E) (o : t.Ok) (s g f : Int) :
    Calls Tryz.prog 20 #[.pointer (some ⟨p, 0, none⟩), .agg #[.int .i64 s, .int .i64 g, .int .i64 f]] w fun e w' => e = .returned (peekV (t.peek s g f)) ∧ Below w.heap.size w w' := by
  have D0 := Lib.hid (PkSt.start h L s g f)
  have HC := Lib.hid (fun W (H : Rep W E B p bs bb v fv t) => cell_any H o s g f)
  have HM := Lib.hid (fun W (H : Rep W E B p bs bb v fv t) (L : Env W E) => missed_any H L o s g .freed)
  have HI := Lib.hid (fun l (e : t.loc s g f = some l) => h.word (t.loc_in e))
  unfold St.peek
  cases hl : t.loc s g f with
  | none =>
    rw [hl] at HC
    have hv : peekV none = .tuple #[.agg #[.int .i64 0, .int .i64 0, .int .i64 0, .int .i64 0, .bool false], .bool false] := rfl
    dsimp only
    rw [hv]
    clear h L o hl hv HI
    unfold pv at HC
    dsimp only [Option.map] at HC
    go_enter Tryz.func20, Tryz.ntmps20
    go_wp2_with fail
    refine (HC.out _ D0.out.rep).mono ?_
    rintro e w1 ⟨rfl, hb⟩
    have D1 := Lib.hid (D0.out.then hb)
    clear hb
    have K3 := D1.out.res
    obtain ⟨a0, a1, a2, a3, a4⟩ := cell5 K3
    have af := fun x => K3.frozen x
    have lt1 := K3.lt
    have HB := Lib.hid D1.out.below
    clear K3
    go_wp2
    refine bodyPost_ret (v := .tuple #[.agg #[.int .i64 0, .int .i64 0, .int .i64 0, .int .i64 0, .bool false], .bool false]) (by simp [results, Tryz.results20, go_sem, a0, a1, a2, a3, a4]) rfl ⟨rfl, ?_⟩
    have hB : Below w.heap.size w w1 := HB.out
    exact below_st (below_st (below_st (below_st (below_st hB _ _ _ (Nat.le_succ _)) _ _ _ (Nat.le_succ _)) _ _ _ (Nat.le_succ _)) _ _ _ (Nat.le_succ _)) _ _ _ (Nat.le_succ _)
  | some l =>
    rw [hl, Loc.pv_some] at HC
    have hw := HI.out l hl
    have hlt : (l.at bs bb).1 < w.heap.size := lt_of_cell hw.cells.1
    cases hm : t.miss s g .freed with
    | some x =>
      have hv : peekV none = .tuple #[.agg #[.int .i64 0, .int .i64 0, .int .i64 0, .int .i64 0, .bool false], .bool false] := rfl
      dsimp only
      rw [hv]
      rw [hm] at HM
      clear h L o hl hv HI hm hw
      unfold ev at HM
      dsimp only at HM
      go_enter Tryz.func20, Tryz.ntmps20
      go_wp2_with fail
      refine (HC.out _ D0.out.rep).mono ?_
      rintro e w1 ⟨rfl, hb⟩
      have D1 := Lib.hid (D0.out.then hb)
      clear hb
      have K3 := D1.out.res
      obtain ⟨a0, a1, a2, a3, a4⟩ := cell5 K3
      have af := fun x => K3.frozen x
      have lt1 := K3.lt
      have HB := Lib.hid D1.out.below
      have b0 := D1.out.acc.cell 0
      have b1 := D1.out.acc.cell 1
      simp only [List.getElem?_toArray, List.getElem?_cons_succ, List.getElem?_cons_zero] at b0 b1
      have gf := D1.out.env.freed
      clear K3
      go_wp2_with fail
      refine (HM.out _ D1.out.rep D1.out.env).mono ?_
      rintro e w2 ⟨rfl, rfl⟩
      go_wp2
      refine bodyPost_ret (v := .tuple #[.agg #[.int .i64 0, .int .i64 0, .int .i64 0, .int .i64 0, .bool false], .bool false]) (by simp [results, Tryz.results20, go_sem, a0, a1, a2, a3, a4]) rfl ⟨rfl, ?_⟩
      have hB : Below w.heap.size w w1 := HB.out
      exact below_st (below_st (below_st (below_st (below_st hB _ _ _ (Nat.le_succ _)) _ _ _ (Nat.le_succ _)) _ _ _ (Nat.le_succ _)) _ _ _ (Nat.le_succ _)) _ _ _ (Nat.le_succ _)
    | none =>
      obtain ⟨d, hd⟩ : ∃ d, d = t.read l := ⟨_, rfl⟩
      rw [← hd] at hw
      dsimp only
      rw [← hd]
      have hv : peekV (some d) = .tuple #[.agg #[.int .i64 d.slot, .int .i64 d.gen, .int .i64 d.tag, .int .i64 d.num, .bool d.mark], .bool true] := rfl
      rw [hv]
      rw [hm] at HM
      have HWD := Lib.hid hw
      clear h L o hl hv HI hm hw hd
      generalize l.at bs bb = ad at HC HWD hlt
      obtain ⟨lb, lo⟩ := ad
      unfold ev at HM
      dsimp only at HM hlt HC HWD
      go_enter Tryz.func20, Tryz.ntmps20
      go_wp2_with fail
      refine (HC.out _ D0.out.rep).mono ?_
      rintro e w1 ⟨rfl, hb⟩
      have D1 := Lib.hid (D0.out.then hb)
      clear hb
      have K3 := D1.out.res
      obtain ⟨a0, a1, a2, a3, a4⟩ := cell5 K3
      have af := fun x => K3.frozen x
      have lt1 := K3.lt
      have HB := Lib.hid D1.out.below
      have b0 := D1.out.acc.cell 0
      have b1 := D1.out.acc.cell 1
      simp only [List.getElem?_toArray, List.getElem?_cons_succ, List.getElem?_cons_zero] at b0 b1
      have gf := D1.out.env.freed
      obtain ⟨q0, q1, q2, q3, q4⟩ := WdAt.cells (range_block HWD.out (HB.out.block _ hlt))
      have hne : ¬ lb = w.heap.size + 1 := by omega
      have hne2 : ¬ w.heap.size + 1 = lb := by omega
      clear K3
      go_wp2_with fail
      refine (HM.out _ D1.out.rep D1.out.env).mono ?_
      rintro e w2 ⟨rfl, rfl⟩
      go_wp2
      refine bodyPost_ret (v := .tuple #[.agg #[.int .i64 d.slot, .int .i64 d.gen, .int .i64 d.tag, .int .i64 d.num, .bool d.mark], .bool true]) (by simp [results, Tryz.results20, go_sem, a0, a1, a2, a3, a4]) rfl ⟨rfl, ?_⟩
      have hB : Below w.heap.size w w1 := HB.out
      exact below_st (below_st (below_st (below_st (below_st hB _ _ _ (Nat.le_succ _)) _ _ _ (Nat.le_succ _)) _ _ _ (Nat.le_succ _)) _ _ _ (Nat.le_succ _)) _ _ _ (Nat.le_succ _)
end
end Go.Proofs.YtihjklimcchkhaaGreatDoor

namespace Go.Proofs.YtihjklimcchkhaaGreatDoor
open Go.RowKit Go.Extern.Stop Go.Stop Go.Extern Go.Sort
theorem run_make_rowN {P : Program} (t e : TypeId) (i : TypeInfo) (z : Value) (ht : P.underlying t = some (.slice e)) (hi : P.info? e = some i) (hz : i.zero = some z)
    (kl kc : IntKind) (n c : Nat) (hnc : n ≤ c) (hbytes : i.bytes * c ≤ 281474976710656) (h63 : c ≤ 9223372036854775807) (w : World) :
    (Instr.makeSlice t (.int kl (n : Int)) (.int kc (c : Int))).run P w = .ok (.slice (some ⟨w.heap.size, 0, none⟩) n c) (w.alloc (.cells (madeCells z.cells (c * i.size)) e)) := by
  have hb : (i.bytes : Int) * (c : Int) ≤ 281474976710656 := by
    have h : ((i.bytes * c : Nat) : Int) ≤ 281474976710656 := by omega
    rwa [Int.natCast_mul] at h
  have hr := run_make (P := P) w t e i z ht hi hz kl kc n c (by omega) (by omega) hb (by omega)
  simp only [Int.toNat_natCast] at hr
  exact hr
/-- The cells of a slot that was never given. -/
def zeroL : List Value := [.int .i64 0, .bool false] ++ (wc zw ++ (wc zw ++ (wc zw ++ (wc zw ++ (wc zw ++ (wc zw ++ (wc zw ++ (wc zw ++ (wc zw ++ wc zw)))))))))
def zeroSlot : Array Value := zeroL.toArray
theorem infoSlot : (Tryz.prog.info? 142).map (fun i => (i.zero, i.size, i.bytes)) = some (some (.agg zeroSlot), 52, 416) := by kernel_rfl
theorem infoWord : (Tryz.prog.info? 34).map (fun i => (i.zero, i.size, i.bytes)) = some (some (.agg (wc zw).toArray), 5, 40) := by kernel_rfl
theorem made_at (z : Array Value) (n j : Nat) (v : Value) (hj : j < n) (hv : z[j % z.size]? = some v) : (madeCells z n)[j]? = some v := by
  unfold madeCells
  rw [Array.getElem?_map, Array.getElem?_range, if_pos hj]
  obtain ⟨h, e⟩ := Array.getElem?_eq_some_iff.1 hv
  simp [Array.getElem!_eq_getD, Array.getD, h, e]
theorem zeroL_word : ∀ f, f < 10 → ∀ j, j < 5 → zeroL[2 + f * 5 + j]? = (wc zw)[j]? := by
  intro f hf j hj
  match f, hf with
  | 0, _ | 1, _ | 2, _ | 3, _ | 4, _ | 5, _ | 6, _ | 7, _ | 8, _ | 9, _ =>
    match j, hj with
    | 0, _ | 1, _ | 2, _ | 3, _ | 4, _ => rfl
theorem zeroSlot_word (f : Nat) (hf : f < 10) (j : Nat) (hj : j < 5) : zeroSlot[2 + f * 5 + j]? = (wc zw)[j]? := by
  unfold zeroSlot
  rw [List.getElem?_toArray]
  exact zeroL_word f hf j hj
theorem slots_made {w : World} {bs n : Nat} (h : BlkW w bs 142 (madeCells zeroSlot (n * 52))) : Slots w bs n (fun _ => ⟨0, false, fun _ => zw⟩) := by
  have hz : zeroSlot.size = 52 := rfl
  have key : ∀ i r v, i < n → r < 52 → zeroSlot[r]? = some v → w.cell? ⟨bs, i * 52 + r, none⟩ = some v := by
    intro i r v hi hr hv
    rw [h.cell]
    refine made_at _ _ _ _ (by omega) ?_
    rw [hz, show (i * 52 + r) % 52 = r by omega]
    exact hv
  refine ⟨⟨_, h, size_madeCells _ _⟩, fun i hi j v hv => ?_, fun i f hi hf j v hv => ?_⟩
  · match j with
    | 0 => exact key i 0 v hi (by omega) (by unfold zeroSlot; rw [List.getElem?_toArray]; exact hv)
    | 1 => exact key i 1 v hi (by omega) (by unfold zeroSlot; rw [List.getElem?_toArray]; exact hv)
    | j + 2 => simp at hv
  · have hj : j < 5 := (List.getElem?_eq_some_iff.1 hv).1
    have := key i (2 + f * 5 + j) v hi (by omega) (by rw [zeroSlot_word f hf j hj]; exact hv)
    rw [show i * 52 + 2 + f * 5 + j = i * 52 + (2 + f * 5 + j) by omega]
    exact this
theorem brd_made {w : World} {bb m : Nat} (h : BlkW w bb 34 (madeCells (wc zw).toArray (m * 5))) : Brd w bb m (fun _ => zw) := by
  have hz : (wc zw).toArray.size = 5 := rfl
  refine ⟨⟨_, h, size_madeCells _ _⟩, fun f hf j v hv => ?_⟩
  have hj : j < 5 := (List.getElem?_eq_some_iff.1 hv).1
  rw [h.cell]
  refine made_at _ _ _ _ (by omega) ?_
  rw [hz, show (f * 5 + j) % 5 = j by omega]
  simpa using hv
/-- A new plot while its slots are laid on the row: those from c on lie there. -/
def St.row (n m c : Nat) : St := { St.new n m with free := List.range' c (n - c) }
theorem row_end (n m : Nat) : St.row n m 0 = St.new n m := by
  unfold St.row St.new
  simp [List.range_eq_range']
theorem row_next (n c : Nat) (h : c < n) : List.range' c (n - c) = c :: List.range' (c + 1) (n - (c + 1)) := by
  rw [show n - c = (n - (c + 1)) + 1 by omega, List.range'_succ]
theorem rep_made {w : World} {E : Flt → Addr} {B p bs bb n m : Nat} (h1 : BlkW w bs 142 (madeCells zeroSlot (n * 52))) (h2 : BlkW w bb 34 (madeCells (wc zw).toArray (m * 5)))
    (h3 : BlkW w p 116 #[.slice (some ⟨bs, 0, none⟩) n n, .slice (some ⟨bb, 0, none⟩) m m, .slice none 0 0, .int .i64 0, .int .i64 0, .nilIface]) (b1 : B ≤ bs) (b2 : B ≤ bb) (b3 : B ≤ p) :
    Rep w E B p bs bb (.slice none 0 0) .nilIface (St.row n m n) :=
  ⟨h3, slots_made h1, brd_made h2, by
    have : (St.row n m n).free = [] := by simp [St.row]
    rw [this]
    exact ⟨rfl, .inl ⟨rfl, rfl⟩⟩, rfl, b3, b1, b2⟩
def NewPost (w : World) (E : Flt → Addr) (n m : Nat) (e : Ending) (w' : World) : Prop :=
  ∃ p bs bb v, e = .returned (.tuple #[.pointer (some ⟨p, 0, none⟩), .nilIface]) ∧ Rep w' E w.heap.size p bs bb v .nilIface (St.new n m) ∧ Below w.heap.size w w'
def NewRel (w : World) (E : Flt → Addr) (p n m : Nat) (vi : Value) (wr : World) : Prop :=
  ∃ (c : Nat) (v : Value) (bs bb : Nat), c ≤ n ∧ vi = .int .i64 (c : Int) ∧ Rep wr E w.heap.size p bs bb v .nilIface (St.row n m c) ∧ Below w.heap.size w wr
theorem NewRel.drew {w wr : World} {E : Flt → Addr} {p n m : Nat} {vi : Value} (h : NewRel w E p n m vi wr) : NewRel w E p n m vi wr.drew := by
  obtain ⟨c, v, bs, bb, h1, h2, h3, h4⟩ := h
  exact ⟨c, v, bs, bb, h1, h2, h3.keep ((Below.refl _ _).drew), h4.drew⟩
theorem new_start1 (w : World) (E : Flt → Addr) (n m : Nat) : NewRel w E (w.heap.size + 1 + 1) n m (.int .i64 (n : Int)) (((w.alloc (.cells (madeCells zeroSlot (n * 52)) 142)).alloc (.cells (madeCells (wc zw).toArray (m * 5)) 34)).alloc
    (.cells #[.slice (some ⟨w.heap.size, 0, none⟩) n n, .slice (some ⟨w.heap.size + 1, 0, none⟩) m m, .slice none 0 0, .int .i64 0, .int .i64 0, .nilIface] 116)) := by
  obtain ⟨a1, a2, a3⟩ := blk3 w (madeCells zeroSlot (n * 52)) (madeCells (wc zw).toArray (m * 5)) #[.slice (some ⟨w.heap.size, 0, none⟩) n n, .slice (some ⟨w.heap.size + 1, 0, none⟩) m m, .slice none 0 0, .int .i64 0, .int .i64 0, .nilIface] 142 34 116
  exact ⟨n, _, _, _, Nat.le_refl _, rfl, rep_made a1 a2 a3 (by omega) (by omega) (by omega), below_alloc (below_alloc (below_alloc (Below.refl _ _) _) _) _⟩
theorem new_start2 (w : World) (E : Flt → Addr) (n m : Nat) : NewRel w E (w.heap.size + 1 + 1) n m (.int .i64 (n : Int)) (((w.alloc (.cells (madeCells (wc zw).toArray (m * 5)) 34)).alloc (.cells (madeCells zeroSlot (n * 52)) 142)).alloc
    (.cells #[.slice (some ⟨w.heap.size + 1, 0, none⟩) n n, .slice (some ⟨w.heap.size, 0, none⟩) m m, .slice none 0 0, .int .i64 0, .int .i64 0, .nilIface] 116)) := by
  obtain ⟨a1, a2, a3⟩ := blk3 w (madeCells (wc zw).toArray (m * 5)) (madeCells zeroSlot (n * 52)) #[.slice (some ⟨w.heap.size + 1, 0, none⟩) n n, .slice (some ⟨w.heap.size, 0, none⟩) m m, .slice none 0 0, .int .i64 0, .int .i64 0, .nilIface] 34 142 116
  exact ⟨n, _, _, _, Nat.le_refl _, rfl, rep_made a2 a1 a3 (by omega) (by omega) (by omega), below_alloc (below_alloc (below_alloc (Below.refl _ _) _) _) _⟩
set_option maxRecDepth 100000 in
set_option maxHeartbeats 4000000 in
theorem New_any (E : Flt → Addr) (n m : Nat) (hn : n ≤ 1024) (hm : m ≤ 200) (w : World) :
    Calls Tryz.prog 38 #[.int .i64 (n : Int), .int .i64 (m : Int)] w (NewPost w E n m) := by
  obtain ⟨i1, hi1, hz1, hs1, hy1⟩ := info_parts infoSlot
  obtain ⟨i2, hi2, hz2, hs2, hy2⟩ := info_parts infoWord
  obtain ⟨i0, hi0, hz0, hz01, hz02⟩ := info_parts info3
  have mk1 := fun W => run_make_rowN (P := Tryz.prog) 114 142 i1 _ Tryz.underlying114 hi1 hz1 .i64 .i64 n n (Nat.le_refl _) (by rw [hy1]; omega) (by omega) W
  have mk2 := fun W => run_make_rowN (P := Tryz.prog) 71 34 i2 _ Tryz.underlying71 hi2 hz2 .i64 .i64 m m (Nat.le_refl _) (by rw [hy2]; omega) (by omega) W
  rw [hs1] at mk1
  rw [hs2] at mk2
  have h1 : (n : Int) ≤ 1024 := by omega
  have h2 : (m : Int) ≤ 200 := by omega
  have k1 : decide ((n : Int) < 0) = false := by simp
  have k2 : decide ((m : Int) < 0) = false := by simp
  have k3 : decide ((1024 : Int) < n) = false := by simp; omega
  have k4 : decide ((200 : Int) < m) = false := by simp; omega
  clear hi1 hz1 hs1 hy1 hi2 hz2 hs2 hy2
  go_enter Tryz.func38, Tryz.ntmps38
  go_upto_region 3 with (fail)
  go_region
  all_goals
    clear mk1 mk2
    go_wp2
    go_loopw [7] (NewRel w E (w.heap.size + 1 + 1) n m) (fun i _ => (intOf i).toNat)
    case atStart =>
      first
        | exact (new_start1 w E n m).drew
        | exact (new_start2 w E n m).drew
    case round =>
      obtain ⟨c, v, bs, bb, hc, rfl, hrep, hbel⟩ := hrel
      obtain ⟨wo, rfl⟩ : ∃ wo : World, wo = wr := ⟨_, rfl⟩
      have HB := Lib.hid hbel
      have HR := Lib.hid hrep
      have c2 := hrep.pcells.2.2.1
      have f2 := hrep.hp.frozen 2
      have hzp := hrep.hp.lt
      clear hbel hrep
      by_cases h0 : c = 0
      · subst h0
        rw [row_end] at HR
        go_wp2
        go_ret2
        exact ⟨_, bs, bb, v, rfl, HR.out, HB.out⟩
      · obtain ⟨d, rfl⟩ : ∃ d, c = d + 1 := ⟨c - 1, by omega⟩
        clear h0
        have j1 : (1 : Int) ≤ (d : Int) + 1 := by omega
        have j2 : (d : Int) + 1 ≤ 1024 := by omega
        have hlen : (St.row n m (d + 1)).free.length ≤ 1024 := by simp [St.row]; omega
        go_wp2_with (at_builtin; refine wpList_append_own_at _ rfl _ _ 23 rfl w.heap.size 3 i0 (.int .i64 0) 1 8 Tryz.underlying23 hi0 hz0 hz01 hz02 rfl (by decide) v _ _ (by rfl) (HR.out.alloc _).free ⟨wo.heap.size, 0, none⟩ 1 1 [.int .i64 ((d : Int) + 1)] (by rfl) rfl ?c1 ?c2 ?c3 ?c4 ?c5 ?_)
        case c1 => exact cell_one_new wo (.int .i64 ((d : Int) + 1)) 3
        case c2 => intro u hu; simp at hu; subst hu; rfl
        case c3 => simp [maxLen]; omega
        case c4 => omega
        case c5 => rw [World.size_alloc]; have := HB.out.size; omega
        intro v' w4 hown' hgrow _ _
        obtain ⟨g', cap', rfl, _, _⟩ := hown'.form (by omega)
        have R2 := HR.out.alloc (.cells #[.int .i64 ((d : Int) + 1)] 3)
        have R4 := R2.regrow (l := d :: (St.row n m (d + 1)).free) hgrow (by rw [frow_cons]; exact hown')
        have e4 : ({ St.row n m (d + 1) with free := d :: (St.row n m (d + 1)).free } : St) = St.row n m d := by
          unfold St.row
          simp only []
          rw [row_next n d (by omega)]
        rw [e4] at R4
        have p4 := (hgrow.block _ R2.hp.lt (fun e => R2.ne.2.2.2.1 e.symm)).trans R2.hp
        have hb4 := ((below_alloc HB.out (.cells #[.int .i64 ((d : Int) + 1)] 3)).grown hgrow (below_alloc HB.out _).size (fun k e => (R2.free.lt k e).1)).setCell (p := ⟨w.heap.size + 1 + 1, 2, none⟩) R2.bp (.slice (some ⟨g', 0, none⟩) ((St.row n m (d + 1)).free.length + 1) cap')
        have g2 : w4.cell? ⟨w.heap.size + 1 + 1, 2, none⟩ = some v := by
          have := BlkW.cell p4 2
          exact this
        have g3 := BlkW.frozen p4 2
        have H4 := Lib.hid R4
        have B4 := Lib.hid hb4
        clear R2 R4 e4 p4 hb4 hown' hgrow c2 f2 hlen
        go_wp2
        refine ⟨⟨d, _, bs, bb, by omega, by go_num, H4.out, B4.out⟩, by simp [intOf]⟩
end Go.Proofs.YtihjklimcchkhaaGreatDoor

namespace Go.Proofs.YtihjklimcchkhaaGreatDoor
open Go.RowKit Go.Extern.Stop Go.Stop Go.Extern Go.Sort
/-- A plot. -/
def PlotAt (w : World) (E : Flt → Addr) (B p bs bb : Nat) (t : St) : Prop := (∃ v fv, Rep w E B p bs bb v fv t) ∧ t.Ok ∧ Env w E
/-- What a plot's access leaves as it is. -/
def Kept (p bs bb : Nat) (W w' : World) : Prop := ∀ x, x < W.heap.size → x ≠ p → x ≠ bs → x ≠ bb → (∀ cs fr, W.heap[x]? ≠ some (.cells cs 3 fr)) → w'.heap[x]? = W.heap[x]?
section
variable {w W w' : World} {E : Flt → Addr} {B p bs bb : Nat} {t t' : St}
theorem PlotAt.keep (h : PlotAt w E B p bs bb t) (hb : Below w.heap.size w w') : PlotAt w' E B p bs bb t := by
  obtain ⟨⟨v, fv, h⟩, o, L⟩ := h
  exact ⟨⟨v, fv, h.keep hb⟩, o, L.keep hb⟩
theorem Kept.refl : Kept p bs bb w w := fun _ _ _ _ _ _ => rfl
theorem Kept.below (hb : Below w.heap.size w w') : Kept p bs bb w w' := fun x hx _ _ _ _ => hb.block x hx
theorem Kept.of_off {v fv : Value} (h : Rep w E B p bs bb v fv t) (ho : Off (Mine p bs bb v) w w') : Kept p bs bb w w' := fun x hx h1 h2 h3 h4 => ho.block x hx (by
  rintro (e | e | e | e)
  · exact h1 e
  · exact h2 e
  · exact h3 e
  · rcases h.free.2 with ⟨rfl, _⟩ | ⟨g, cap, cur, rfl, _, hh, _⟩
    · simp [Value.ownBlock] at e
    · have : g = x := by simpa [Value.ownBlock] using e
      subst this
      exact h4 _ _ hh)
theorem Kept.blk {T : TypeId} {x : Nat} {cs : Array Value} (h : Kept p bs bb w w') (hp : PlotAt w E B p bs bb t) (hx : BlkW w x T cs) (h1 : T ≠ 116) (h2 : T ≠ 142) (h3 : x ≠ bb) (h4 : T ≠ 3) : BlkW w' x T cs := by
  obtain ⟨⟨v, fv, hp⟩, _⟩ := hp
  obtain ⟨c1, b1, _⟩ := hp.slots.blk
  refine (h x hx.lt (hx.ne_ hp.hp h1) (hx.ne_ b1 h2) h3 (fun cs' fr e => ?_)).trans hx
  unfold BlkW at hx
  rw [hx] at e
  injection e with e
  injection e with _ e
  exact h4 e
theorem Kept.rep {x : Nat} {cs : Array Value} (h : Kept p bs bb w w') (hp : PlotAt w E B p bs bb t) (hx : BlkW w x 63 cs) : BlkW w' x 63 cs := by
  have hq := hp
  obtain ⟨⟨v, fv, hq⟩, _⟩ := hq
  obtain ⟨c1, b1, _⟩ := hq.brd.blk
  exact h.blk hp hx (by decide) (by decide) (hx.ne_ b1 (by decide)) (by decide)
/-- An access that can be: its reply, and what is behind it. -/
def DoIs (W : World) (E : Flt → Addr) (B p bs bb : Nat) (t' : St) (d : Wd) (ok : Bool) (e : Ending) (w' : World) : Prop :=
  e = .returned (.tuple #[.agg #[.int .i64 d.slot, .int .i64 d.gen, .int .i64 d.tag, .int .i64 d.num, .bool d.mark, .bool ok], .nilIface]) ∧ Hid (PlotAt w' E B p bs bb t') ∧ Hid (Below B W w') ∧ Hid (Kept p bs bb W w')
theorem do_is (h : PlotAt w E B p bs bb t) (hB : 9 ≤ B) (ht : t.steps < 900000) (a : Ac) (hc : t.can a = true) :
    Calls Tryz.prog 26 #[.pointer (some ⟨p, 0, none⟩), av a] w (DoIs w E B p bs bb (t.step a).1 (t.step a).2.1 (t.step a).2.2) := by
  obtain ⟨⟨v, fv, h⟩, o, L⟩ := h
  refine (do_any h L o hB ht a hc).mono fun e w' ⟨v', fv', he, hr, ho, _⟩ => ⟨he, ?_, ?_, ?_⟩
  · have hb := ho.below h.mine_ge h.base_lt
    exact ⟨⟨v', fv', hr⟩, t.step_ok o a hc, L.below hb hB⟩
  · exact ho.below h.mine_ge h.base_lt
  · exact Kept.of_off h ho
/-- New, as the laws use it. -/
def NewIs (w : World) (E : Flt → Addr) (n m : Nat) (e : Ending) (w' : World) : Prop :=
  ∃ p bs bb, e = .returned (.tuple #[.pointer (some ⟨p, 0, none⟩), .nilIface]) ∧ Hid (PlotAt w' E w.heap.size p bs bb (St.new n m)) ∧ Hid (Below w.heap.size w w') ∧ w.heap.size ≤ bb ∧ bb < w'.heap.size
theorem new_is (L : Env w E) (n m : Nat) (hn : n ≤ 1024) (hm : m ≤ 200) : Calls Tryz.prog 38 #[.int .i64 (n : Int), .int .i64 (m : Int)] w (NewIs w E n m) :=
  (New_any E n m hn hm w).mono fun _ _ ⟨p, bs, bb, v, he, hr, hb⟩ => ⟨p, bs, bb, he, ⟨⟨v, _, hr⟩, St.new_ok n m hn hm, L.keep hb⟩, hb, hr.bbb, hr.brd.lt⟩
theorem below_low {B : Nat} {a b : World} (h : Below B w a) (k : Below B a b) : Below B w b := h.trans k
end
end Go.Proofs.YtihjklimcchkhaaGreatDoor
