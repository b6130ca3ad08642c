/- plot: Steps, Live, Made, Peek, Fault. A template (fill.py). -/
import Derived.Test.YtkaplagbcnkflaaDoorF8
namespace Go.Proofs.YtkaplagbcnkflaaDoor
open Go.RowKit Go.Extern.Stop Go.Stop Go.Extern Go.Sort
section
variable {w : World} {E : Flt → Addr} {B p bs bb : Nat} {v fv : Value} {t : St}
theorem steps_any (h : Rep w E B p bs bb v fv t) :
    Calls Tryd.prog 17 #[.pointer (some ⟨p, 0, none⟩)] w fun e w' => e = .returned (.int .i64 (t.steps : Int)) ∧ w = w' := by
  have c3 := h.pcells.2.2.2.1
  clear h
  go_enter Tryd.func17, Tryd.ntmps17
  go_wp2
  go_ret
  exact ⟨rfl, rfl⟩
theorem made_any (h : Rep w E B p bs bb v fv t) :
    Calls Tryd.prog 11 #[.pointer (some ⟨p, 0, none⟩)] w fun e w' => e = .returned (.int .i64 (t.made : Int)) ∧ w = w' := by
  have c3 := h.pcells.2.2.2.2.1
  clear h
  go_enter Tryd.func11, Tryd.ntmps11
  go_wp2
  go_ret
  exact ⟨rfl, rfl⟩
theorem live_any (h : Rep w E B p bs bb v fv t) (o : t.Ok) :
    Calls Tryd.prog 10 #[.pointer (some ⟨p, 0, none⟩)] w fun e w' => e = .returned (.int .i64 ((t.n : Int) - t.free.length)) ∧ Below w.heap.size w w' := by
  have c0 := h.pcells.1
  have c2 := h.pcells.2.2.1
  have hl : t.free.length ≤ t.n := nodup_le t.n t.free o.nodup o.lt
  have hn := o.size
  obtain ⟨ao, c, hv⟩ : ∃ ao c, v = .slice ao t.free.length c := by
    rcases h.free.2 with ⟨rfl, e⟩ | ⟨g, cap, cur, rfl, _⟩
    · exact ⟨none, 0, by rw [e]⟩
    · exact ⟨_, _, rfl⟩
  rw [hv] at c2
  obtain ⟨L, hL⟩ : ∃ L, L = t.free.length := ⟨_, rfl⟩
  rw [← hL] at c2 hl ⊢
  have j1 : (L : Int) ≤ t.n := by omega
  have j2 : (t.n : Int) ≤ 1024 := by omega
  clear h o hv hL
  have hsub : IntKind.i64.wrap ((t.n : Int) - L) = (t.n : Int) - L := IntWalk.i64_in _ (by omega)
  go_enter Tryd.func10, Tryd.ntmps10
  go_wp2
  go_quiet (fail)
  go_wp2
  go_ret
  exact ⟨rfl, ⟨rfl, rfl, rfl, Nat.le_refl _, fun _ _ => rfl⟩⟩
/-- What Peek answers. -/
def St.peek (t : St) (s g f : Int) : Option Wd :=
  match t.loc s g f, t.miss s g .freed with
  | some l, none => some (t.read l)
  | _, _ => none
def peekV : Option Wd → Value
  | none => .tuple #[.agg #[.int .i64 0, .int .i64 0, .int .i64 0, .int .i64 0, .bool false], .bool false]
  | some d => .tuple #[.agg #[.int .i64 d.slot, .int .i64 d.gen, .int .i64 d.tag, .int .i64 d.num, .bool d.mark], .bool true]
/-- In the midst of Peek. -/
structure PkSt (w W : World) (E : Flt → Addr) (B p bs bb : Nat) (v fv : Value) (t : St) (s g f : Int) : Prop where
  rep : Rep W E B p bs bb v fv t
  below : Below w.heap.size w W
  acc : BlkW W w.heap.size 33 #[.int .i64 s, .int .i64 g, .int .i64 f]
  res : BlkW W (w.heap.size + 1) 35 #[.int .i64 0, .int .i64 0, .int .i64 0, .int .i64 0, .bool false]
  env : Env W E
theorem PkSt.start (h : Rep w E B p bs bb v fv t) (L : Env w E) (s g f : Int) : PkSt w ((w.alloc (.cells #[.int .i64 s, .int .i64 g, .int .i64 f] 33)).alloc (.cells #[.int .i64 0, .int .i64 0, .int .i64 0, .int .i64 0, .bool false] 35)) E B p bs bb v fv t s g f :=
  ⟨(h.alloc _).alloc _, below_alloc (below_alloc (Below.refl _ _) _) _, (BlkW.new _ _ _).alloc _, blk_second _ _ _ _ _ rfl, L.keep (below_alloc (below_alloc (Below.refl _ _) _) _)⟩
theorem PkSt.then {W W' : World} {s g f : Int} (h : PkSt w W E B p bs bb v fv t s g f) (hb : Below W.heap.size W W') : PkSt w W' E B p bs bb v fv t s g f :=
  ⟨h.rep.keep hb, below_trans h.below hb, h.acc.below hb, h.res.below hb, h.env.keep hb⟩
set_option maxRecDepth 100000 in
set_option maxHeartbeats 4000000 in
theorem peek_any (h : Rep w E B p bs bb v fv t) (L : Env w E) (o : t.Ok) (s g f : Int) :
    Calls Tryd.prog 13 #[.pointer (some ⟨p, 0, none⟩), .agg #[.int .i64 s, .int .i64 g, .int .i64 f]] w fun e w' => e = .returned (peekV (t.peek s g f)) ∧ Below w.heap.size w w' := by
  have D0 := Lib.hid (PkSt.start h L s g f)
  have HC := Lib.hid (fun W (H : Rep W E B p bs bb v fv t) => cell_any H o s g f)
  have HM := Lib.hid (fun W (H : Rep W E B p bs bb v fv t) (L : Env W E) => missed_any H L o s g .freed)
  have HI := Lib.hid (fun l (e : t.loc s g f = some l) => h.word (t.loc_in e))
  unfold St.peek
  cases hl : t.loc s g f with
  | none =>
    rw [hl] at HC
    have hv : peekV none = .tuple #[.agg #[.int .i64 0, .int .i64 0, .int .i64 0, .int .i64 0, .bool false], .bool false] := rfl
    dsimp only
    rw [hv]
    clear h L o hl hv HI
    unfold pv at HC
    dsimp only [Option.map] at HC
    go_enter Tryd.func13, Tryd.ntmps13
    go_wp2_with fail
    refine (HC.out _ D0.out.rep).mono ?_
    rintro e w1 ⟨rfl, hb⟩
    have D1 := Lib.hid (D0.out.then hb)
    clear hb
    have K3 := D1.out.res
    obtain ⟨a0, a1, a2, a3, a4⟩ := cell5 K3
    have af := fun x => K3.frozen x
    have lt1 := K3.lt
    have HB := Lib.hid D1.out.below
    clear K3
    go_wp2
    refine bodyPost_ret (v := .tuple #[.agg #[.int .i64 0, .int .i64 0, .int .i64 0, .int .i64 0, .bool false], .bool false]) (by simp [results, Tryd.results13, go_sem, a0, a1, a2, a3, a4]) rfl ⟨rfl, ?_⟩
    have hB : Below w.heap.size w w1 := HB.out
    exact below_st (below_st (below_st (below_st (below_st hB _ _ _ (Nat.le_succ _)) _ _ _ (Nat.le_succ _)) _ _ _ (Nat.le_succ _)) _ _ _ (Nat.le_succ _)) _ _ _ (Nat.le_succ _)
  | some l =>
    rw [hl, Loc.pv_some] at HC
    have hw := HI.out l hl
    have hlt : (l.at bs bb).1 < w.heap.size := lt_of_cell hw.cells.1
    cases hm : t.miss s g .freed with
    | some x =>
      have hv : peekV none = .tuple #[.agg #[.int .i64 0, .int .i64 0, .int .i64 0, .int .i64 0, .bool false], .bool false] := rfl
      dsimp only
      rw [hv]
      rw [hm] at HM
      clear h L o hl hv HI hm hw
      unfold ev at HM
      dsimp only at HM
      go_enter Tryd.func13, Tryd.ntmps13
      go_wp2_with fail
      refine (HC.out _ D0.out.rep).mono ?_
      rintro e w1 ⟨rfl, hb⟩
      have D1 := Lib.hid (D0.out.then hb)
      clear hb
      have K3 := D1.out.res
      obtain ⟨a0, a1, a2, a3, a4⟩ := cell5 K3
      have af := fun x => K3.frozen x
      have lt1 := K3.lt
      have HB := Lib.hid D1.out.below
      have b0 := D1.out.acc.cell 0
      have b1 := D1.out.acc.cell 1
      simp only [List.getElem?_toArray, List.getElem?_cons_succ, List.getElem?_cons_zero] at b0 b1
      have gf := D1.out.env.freed
      clear K3
      go_wp2_with fail
      refine (HM.out _ D1.out.rep D1.out.env).mono ?_
      rintro e w2 ⟨rfl, rfl⟩
      go_wp2
      refine bodyPost_ret (v := .tuple #[.agg #[.int .i64 0, .int .i64 0, .int .i64 0, .int .i64 0, .bool false], .bool false]) (by simp [results, Tryd.results13, go_sem, a0, a1, a2, a3, a4]) rfl ⟨rfl, ?_⟩
      have hB : Below w.heap.size w w1 := HB.out
      exact below_st (below_st (below_st (below_st (below_st hB _ _ _ (Nat.le_succ _)) _ _ _ (Nat.le_succ _)) _ _ _ (Nat.le_succ _)) _ _ _ (Nat.le_succ _)) _ _ _ (Nat.le_succ _)
    | none =>
      obtain ⟨d, hd⟩ : ∃ d, d = t.read l := ⟨_, rfl⟩
      rw [← hd] at hw
      dsimp only
      rw [← hd]
      have hv : peekV (some d) = .tuple #[.agg #[.int .i64 d.slot, .int .i64 d.gen, .int .i64 d.tag, .int .i64 d.num, .bool d.mark], .bool true] := rfl
      rw [hv]
      rw [hm] at HM
      have HWD := Lib.hid hw
      clear h L o hl hv HI hm hw hd
      generalize l.at bs bb = ad at HC HWD hlt
      obtain ⟨lb, lo⟩ := ad
      unfold ev at HM
      dsimp only at HM hlt HC HWD
      go_enter Tryd.func13, Tryd.ntmps13
      go_wp2_with fail
      refine (HC.out _ D0.out.rep).mono ?_
      rintro e w1 ⟨rfl, hb⟩
      have D1 := Lib.hid (D0.out.then hb)
      clear hb
      have K3 := D1.out.res
      obtain ⟨a0, a1, a2, a3, a4⟩ := cell5 K3
      have af := fun x => K3.frozen x
      have lt1 := K3.lt
      have HB := Lib.hid D1.out.below
      have b0 := D1.out.acc.cell 0
      have b1 := D1.out.acc.cell 1
      simp only [List.getElem?_toArray, List.getElem?_cons_succ, List.getElem?_cons_zero] at b0 b1
      have gf := D1.out.env.freed
      obtain ⟨q0, q1, q2, q3, q4⟩ := WdAt.cells (range_block HWD.out (HB.out.block _ hlt))
      have hne : ¬ lb = w.heap.size + 1 := by omega
      have hne2 : ¬ w.heap.size + 1 = lb := by omega
      clear K3
      go_wp2_with fail
      refine (HM.out _ D1.out.rep D1.out.env).mono ?_
      rintro e w2 ⟨rfl, rfl⟩
      go_wp2
      refine bodyPost_ret (v := .tuple #[.agg #[.int .i64 d.slot, .int .i64 d.gen, .int .i64 d.tag, .int .i64 d.num, .bool d.mark], .bool true]) (by simp [results, Tryd.results13, go_sem, a0, a1, a2, a3, a4]) rfl ⟨rfl, ?_⟩
      have hB : Below w.heap.size w w1 := HB.out
      exact below_st (below_st (below_st (below_st (below_st hB _ _ _ (Nat.le_succ _)) _ _ _ (Nat.le_succ _)) _ _ _ (Nat.le_succ _)) _ _ _ (Nat.le_succ _)) _ _ _ (Nat.le_succ _)
theorem Unwrap_woe (b : Nat) (v : Value) (w : World) (h : w.cell? ⟨b, 1, none⟩ = some v) :
    Calls Tryd.prog 27 #[.iface 73 (.pointer (some ⟨b, 0, none⟩))] w fun e w' => e = .returned v ∧ w = w' := unwrap_woe b v w h
theorem Tryd.noUnwrapNil (xT : TypeId) (w : World) : (Instr.typeAssert .nilIface xT 85 true).run Tryd.prog w = .ok (.tuple #[.nilIface, .bool false]) w := by kernel_rfl
theorem Unwrap_nil (w : World) : Calls Tryd.prog 27 #[.nilIface] w fun e w' => e = .returned .nilIface ∧ w = w' := by
  have h1 := Tryd.noUnwrapNil
  go_enter Tryd.func27, Tryd.ntmps27
  go_wp2
  go_ret
  exact ⟨rfl, rfl⟩
set_option maxHeartbeats 2000000 in
theorem fault_none (h : Rep w E B p bs bb v fv t) (hf : t.fault = none) :
    Calls Tryd.prog 14 #[.pointer (some ⟨p, 0, none⟩)] w fun e w' => e = .returned .nilIface ∧ Below w.heap.size w w' := by
  have c5 := h.pcells.2.2.2.2.2
  have hz := h.hp.lt
  have hfv : fv = .nilIface := by have := h.fault; rw [hf] at this; exact this
  rw [hfv] at c5
  clear h hf hfv
  go_enter Tryd.func14, Tryd.ntmps14
  go_wp2_with fail
  refine (Place_nil _).mono ?_
  rintro e w1 ⟨rfl, hb⟩
  have d5 : w1.cell? ⟨p, 5, none⟩ = some .nilIface := by rw [hb.cell (p := ⟨p, 5, none⟩) hz]; exact c5
  have HB := Lib.hid hb
  clear hb c5
  go_wp2_with fail
  refine (Unwrap_nil _).mono ?_
  rintro e w2 ⟨rfl, rfl⟩
  go_wp2_with fail
  refine (At_nil _ _).mono ?_
  rintro e w3 ⟨rfl, rfl⟩
  go_wp2
  go_ret
  exact ⟨rfl, HB.out⟩
/-- What Fault answers: the first fault's error, at its step. -/
def FaultPost (w : World) (E : Flt → Addr) (k : Nat) (x : Flt) (e : Ending) (w' : World) : Prop :=
  ∃ y, e = .returned (.iface 73 y) ∧ Ch w' (.iface 121 (.pointer (some (E x)))) [(k : Int)] (.iface 73 y) ∧ Below w.heap.size w w'
set_option maxHeartbeats 2000000 in
theorem fault_some (h : Rep w E B p bs bb v fv t) (L : Env w E) (k : Nat) (x : Flt) (hf : t.fault = some (k, x)) :
    Calls Tryd.prog 14 #[.pointer (some ⟨p, 0, none⟩)] w (FaultPost w E k x) := by
  have c5 := h.pcells.2.2.2.2.2
  have hz := h.hp.lt
  have hfv := h.fault
  rw [hf] at hfv
  obtain ⟨b, rfl, _, hblk⟩ := hfv
  have hch : Ch w (.iface 121 (.pointer (some (E x)))) [(k : Int)] (.iface 73 (.pointer (some ⟨b, 0, none⟩))) :=
    .woe hblk.lt (hblk.cell 0) (hblk.cell 1) hblk (.base _)
  have HP := Lib.hid (Place_ch L.et hch (by simp))
  have HK := Lib.hid hblk
  clear h hf hch hblk L
  go_enter Tryd.func14, Tryd.ntmps14
  go_wp2_with fail
  refine HP.out.mono ?_
  rintro e w1 ⟨rfl, hb⟩
  have d5 : w1.cell? ⟨p, 5, none⟩ = some (.iface 73 (.pointer (some ⟨b, 0, none⟩))) := by rw [hb.cell (p := ⟨p, 5, none⟩) hz]; exact c5
  have HK1 := Lib.hid ((HK.out.below hb).cell 1)
  have HB := Lib.hid hb
  clear hb c5
  go_wp2_with fail
  refine (Unwrap_woe b _ _ HK1.out).mono ?_
  rintro e w2 ⟨rfl, rfl⟩
  go_wp2_with fail
  refine (At_some _ _ _ _).mono ?_
  rintro e w3 ⟨rfl, rfl⟩
  go_wp2
  go_ret
  exact ⟨_, rfl, Ch.push _ Ch.base, below_alloc HB.out _⟩
end
end Go.Proofs.YtkaplagbcnkflaaDoor
