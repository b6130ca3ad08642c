/- rite: New, Notes, Freed. A template (made by gen_XRq.py). -/
/- The awake law of rite's seat: a Protect by Hazard, access by access; New that refuses. A template (fill.py). -/
import Derived.Test.YtihjklimcchkhaaGreatDoorRN
import Derived.Deep.DrawnRows
namespace Go.Proofs.YtihjklimcchkhaaGreatDoor
open Go.RowKit Go.Extern.Stop Go.Stop Go.Extern Go.Sort
section
variable {w w' : World} {B r : Nat} {sv fv nv : Value} {m m' : Rt} {K : Nat → Prop}
theorem Freed_is (h : RtAt w r sv fv nv m) : Calls Tryz.prog 30 #[.pointer (some ⟨r, 0, none⟩)] w fun e w' => e = .returned (.int .i64 (m.freed : Int)) ∧ w = w' := by
  have c := h.rows.2.2.2
  have hz := BlkW.lt h
  clear h
  go_enter Tryz.func30, Tryz.ntmps30
  go_wp2
  go_ret
  exact ⟨rfl, rfl⟩
theorem wpList_build {P : Program} {ops : Array Oper} {rest : List Oper} {op : Oper} {a : Act} {w : World} {Q : Exit → Act → World → Prop} (hgd : op.guard = none) (ty : TypeId) (ps : Array (Nat × Operand)) (_ : op.op = .build ty ps) (v : Value) (h : (execOp a.eval op).run P w = .ok (.value v) w) (k : wpList P ops Q rest (a.put op.dst v) w) : wpList P ops Q (op :: rest) a w :=
  wpList_plain hgd fun _ hK => by
    unfold Oper.wp
    rw [h]
    exact hK _ _ k
set_option maxRecDepth 100000 in
set_option maxHeartbeats 400000 in
theorem New_is (e : Int) (me thr most : Nat) (he : 1 ≤ e ∧ e ≤ 5) (ht : 1 ≤ thr ∧ thr ≤ 6) (hm : me < thr) (hs : 1 ≤ most ∧ most ≤ 64) (w : World) :
    Calls Tryz.prog 25 #[.int .i64 e, .int .i64 (me : Int), .int .i64 (thr : Int), .int .i64 (most : Int)] w fun f w' => f = .returned (.tuple #[.pointer (some ⟨w.heap.size, 0, none⟩), .nilIface]) ∧ Hid (RiteP w' w.heap.size w.heap.size nilS nilS nilS (Rt.new e me thr most) (fun b => b = w.heap.size)) ∧ Hid (Below w.heap.size w w') := by
  have W1 := Lib.hid (fun w => within_is e 1 5 w)
  have W2 := Lib.hid (fun w => within_is (thr : Int) 1 6 w)
  have W3 := Lib.hid (fun w => within_is (me : Int) 0 ((thr : Int) - 1) w)
  have W4 := Lib.hid (fun w => within_is (most : Int) 1 64 w)
  have h1 : (decide (1 ≤ e) && decide (e ≤ 5)) = true := by simp [he]
  have h2 : (decide ((1 : Int) ≤ (thr : Int)) && decide ((thr : Int) ≤ 6)) = true := by simp; omega
  have h3 : (decide ((0 : Int) ≤ (me : Int)) && decide ((me : Int) ≤ (thr : Int) - 1)) = true := by simp; omega
  have h4 : (decide ((1 : Int) ≤ (most : Int)) && decide ((most : Int) ≤ 64)) = true := by simp; omega
  rw [h1] at W1
  rw [h2] at W2
  rw [h3] at W3
  rw [h4] at W4
  have j1 : (thr : Int) ≤ 6 := by omega
  have j2 : (1 : Int) ≤ (thr : Int) := by omega
  clear h1 h2 h3 h4
  go_enter Tryz.func25, Tryz.ntmps25
  go_wp2_with fail
  refine (W1.out _).mono ?_
  rintro f w1 ⟨rfl, rfl⟩
  go_wp2_with fail
  refine (W2.out _).mono ?_
  rintro f w1 ⟨rfl, rfl⟩
  go_wp2_with fail
  refine (W3.out _).mono ?_
  rintro f w1 ⟨rfl, rfl⟩
  go_wp2_with fail
  refine (W4.out _).mono ?_
  rintro f w1 ⟨rfl, rfl⟩
  go_upto_region 3 with fail
  go_wp2_with (refine wpList_build rfl 126 _ rfl (.agg (rc nilS nilS nilS (Rt.new e me thr most)).toArray) (by kernel_rfl) ?_)
  refine bodyPost_ret (v := .tuple #[.pointer (some ⟨w.heap.size, 0, none⟩), .nilIface]) (by simp [results, Tryz.results25, go_sem]) rfl ?_
  refine ⟨rfl, Lib.hid ?_, Lib.hid (below_alloc (Below.refl _ _) _)⟩
  have hn : RtAt (w.alloc (.cells (rc nilS nilS nilS (Rt.new e me thr most)).toArray 126)) w.heap.size nilS nilS nilS (Rt.new e me thr most) := BlkW.new _ _ _
  exact ⟨hn, World.ownsRow_nil _ _ _ _, World.ownsRow_nil _ _ _ _, .inl ⟨⟨_, _, rfl⟩, rfl⟩, rfl, fun b hb => by simp [nilS, Value.ownBlock] at hb, fun b hb => by simp [nilS, Value.ownBlock] at hb, .inl rfl, fun b hb => by subst hb; exact ⟨Nat.le_refl _, BlkW.lt hn⟩⟩
theorem own_made (w : World) : (w.alloc (.cells #[] 74)).ownsRow w.heap.size 74 7 (.slice (some ⟨w.heap.size, 0, none⟩) 0 0) 0 [] := World.ownsRow_made w #[] 0 (Nat.le_refl _) (Nat.zero_le _) (by simp)
set_option maxRecDepth 100000 in
set_option maxHeartbeats 400000 in
theorem Clone_is (v : Value) (xs : List Nt) (hv : w.ownsRow B 74 7 v xs.length (Sv.flat Sv.nc xs)) (hl : xs.length ≤ 1000) :
    Calls Tryz.prog 53 #[v] w fun e w' => ∃ u, e = .returned u ∧ Hid (Sv.RowC Sv.nc 7 w' u xs) ∧ Hid (Below w.heap.size w w') := by
  obtain ⟨i5, hi5, hz5, hs5, hy5⟩ := info_parts Sv.infoNote
  have HV := Lib.hid hv
  obtain ⟨ao, cp, ev⟩ := Sv.own_slice hv
  subst ev
  obtain ⟨L, hL⟩ : ∃ L, L = xs.length := ⟨_, rfl⟩
  have HR := Lib.hid (Sv.own_row Sv.nc_len hv)
  have HL := Lib.hid hL
  have hq : ∀ (ao : Option Addr) (n c : Nat) (w : World), (binOp .eql 42 (.slice ao n c) (.slice none 0 0)).run Tryz.prog w = .ok (.bool ao.isNone) w := fun ao n c w => Lib.run_eql_slice_nil w 42 74 ao n c 0 0 Tryz.underlying42
  cases ao with
  | none =>
    have h0 : xs = [] := by
      rcases hv.2 with ⟨_, e⟩ | ⟨g, cap, cur, e, _⟩
      · exact List.eq_nil_of_length_eq_zero e
      · injection e with e1; cases e1
    subst h0
    clear hv
    go_enter Tryz.func53, Tryz.ntmps53
    go_wp2
    go_ret
    exact ⟨_, rfl, Lib.hid (.inl ⟨⟨none, 0, rfl⟩, rfl⟩), Lib.hid (Below.refl _ _)⟩
  | some ad =>
    clear hv
    rw [← hL]
    go_enter Tryz.func53, Tryz.ntmps53
    have hLb : L ≤ 1000 := by omega
    have HO := Lib.hid (own_made w)
    have HRK := Lib.hid (HR.out.keep (below_alloc (Below.refl w.heap.size w) (.cells #[] 74)))
    go_wp2_with (at_builtin; refine Sv.wpList_append_row _ Sv.nc_len (by decide) Sv.nc_one rfl (.tmp 5) (.tmp 6) 42 rfl w.heap.size 74 i5 _ 56 Tryz.underlying42 hi5 hz5 hs5 hy5 rfl _ 0 [] (by rfl) HO.out _ xs (by rfl) (by rw [HL.out]; exact HRK.out) (by simp only [maxLen]; omega) (by omega) (by simp) ?_)
    rintro u1 w4 ⟨ho1, hg1, ha1, hl1⟩
    obtain ⟨ao4, cp4, ev4⟩ := Sv.own_slice ho1
    subst ev4
    have HX := Lib.hid (Sv.own_row (c := Sv.nc) (k := 7) (xs := xs) Sv.nc_len (by simpa using ho1))
    have HB := Lib.hid (hl1 w (below_alloc (Below.refl _ _) _))
    clear ho1 hg1 ha1 hl1
    go_wp2
    go_ret
    refine ⟨_, rfl, ?_, HB⟩
    have h := HX.out
    rw [Nat.zero_add]
    exact h
set_option maxRecDepth 100000 in
set_option maxHeartbeats 400000 in
theorem Notes_is (h : RiteP w B r sv fv nv m K) (hl : m.notes.length ≤ 1000) :
    Calls Tryz.prog 16 #[.pointer (some ⟨r, 0, none⟩)] w fun e w' => ∃ u, e = .returned u ∧ Hid (Sv.RowC Sv.nc 7 w' u m.notes) ∧ Hid (Below w.heap.size w w') := by
  have c := h.at_.n105
  have hz := BlkW.lt h.at_
  have HC := Lib.hid (Clone_is nv m.notes h.notes hl)
  obtain ⟨ao, cp, ev⟩ := Sv.own_slice h.notes
  subst ev
  clear h
  go_enter Tryz.func16, Tryz.ntmps16
  go_wp2_with fail
  refine HC.out.mono ?_
  rintro e w1 ⟨u, rfl, hr, hb⟩
  obtain ⟨a1, c1, ev⟩ := Sv.RowC.slice hr.out
  subst ev
  go_wp2
  go_ret
  exact ⟨_, rfl, hr, hb⟩
end
end Go.Proofs.YtihjklimcchkhaaGreatDoor

namespace Go.Proofs.YtihjklimcchkhaaGreatDoor
open Go.RowKit Go.Extern.Stop Go.Stop Go.Extern Go.Sort
section
variable {w : World} {B r : Nat} {sv fv nv : Value} {m m' : Rt} {K : Nat → Prop}
/-- A contract of the own block alone, with the rows beside it. -/
theorem lift_same {F : Nat} {args : Array Value} (h : RiteP w B r sv fv nv m K) (L : Calls Tryz.prog F args w (Leaf w r sv fv nv m')) (hs : m'.st.said = m.st.said) (hf : m'.st.free = m.st.free) (hn : m'.notes = m.notes) : Calls Tryz.prog F args w (RPost w B r K m') :=
  L.mono fun _ _ ⟨he, h1, h2⟩ => ⟨he, Lib.hid (h.step_only h1.out h2.out (.inl ⟨rfl, hs⟩) (.inl ⟨rfl, hf⟩) hn)⟩
theorem lift_nil {F : Nat} {args : Array Value} (h : RiteP w B r sv fv nv m K) (L : Calls Tryz.prog F args w (Leaf w r nilS nilS nv m')) (hs : m'.st.said = []) (hf : m'.st.free = []) (hn : m'.notes = m.notes) : Calls Tryz.prog F args w (RPost w B r K m') :=
  L.mono fun _ _ ⟨he, h1, h2⟩ => ⟨he, Lib.hid (h.step_only h1.out h2.out (.inr ⟨rfl, hs⟩) (.inr ⟨rfl, hf⟩) hn)⟩
def aRoot : Cl := { zc with kind := 6, i := 1 }
def aW : Wd := ⟨3, 1, 5, 0, false⟩
def a0 : Rt := Rt.new 2 0 2 3
def a1 : Rt := Rt.load { a0 with st := a0.st.begin_ aRoot } (0, 0, 0) 1
def a2 : Rt := (a1.see aW).say 1 aW.ref
def a3 : Rt := a2.load (0, 0, 0) 1
def a4 : Rt := (a3.see aW).end_ (aW, true)
theorem a_begin (h : RiteP w B r sv fv nv a0 K) : Calls Tryz.prog 18 #[.pointer (some ⟨r, 0, none⟩), clv aRoot] w (EPost w B r K a1) :=
  Begin_is h rfl aRoot (.inl ⟨rfl, by decide, by decide, by decide, by decide⟩) fun _ h' =>
    goOn_protect h' (zw, false) rfl fun _ h2 => lift_same h2 (protect_load h2.at_ (zw, false) (.inl rfl)) rfl rfl rfl
theorem a_took1 (h : RiteP w B r sv fv nv a1 K) : Calls Tryz.prog 28 #[.pointer (some ⟨r, 0, none⟩), rpv (aW, true)] w (EPost w B r K a2) :=
  Took_is h rfl (aW, true) fun _ h' => goOn_protect h' (aW, true) rfl fun _ h2 => lift_same h2 (protect_see h2.at_ (aW, true) rfl rfl sv fv nv a2 fun _ h3 =>
    keep_haz_say h3 rfl 1 (by decide) rfl (by decide) (by decide) (by decide) _) rfl rfl rfl
theorem a_took2 (h : RiteP w B r sv fv nv a2 K) : Calls Tryz.prog 28 #[.pointer (some ⟨r, 0, none⟩), rpv (zw, true)] w (EPost w B r K a3) :=
  Took_is h rfl (zw, true) fun _ h' => goOn_protect h' (zw, true) rfl fun _ h2 => lift_same h2 (protect_load h2.at_ (zw, true) (.inr rfl)) rfl rfl rfl
theorem a_took3 (h : RiteP w B r sv fv nv a3 K) : Calls Tryz.prog 28 #[.pointer (some ⟨r, 0, none⟩), rpv (aW, true)] w (EPost w B r K a4) :=
  Took_is h rfl (aW, true) fun _ h' => goOn_protect h' (aW, true) rfl fun _ h2 => lift_nil h2 (protect_see h2.at_ (aW, true) rfl rfl nilS nilS nv a4 fun _ h3 =>
    keep_haz_same h3 rfl 1 (by decide) rfl (by decide) (by decide) _) rfl rfl rfl
theorem New_no (w : World) (a : Addr) (L : Bd.HasArg w a) : Calls Tryz.prog 25 #[.int .i64 6, .int .i64 0, .int .i64 1, .int .i64 1] w fun e w' => ∃ u, e = .returned (.tuple #[.pointer none, u]) ∧ Ch w' (.iface 260 (.pointer (some a))) [6] u ∧ Below w.heap.size w w' := by
  unfold Bd.HasArg at L
  have hz := lt_of_cell L
  go_enter Tryz.func25, Tryz.ntmps25
  go_wp2_with fail
  refine (within_is _ _ _ _).mono ?_
  rintro e w1 ⟨rfl, rfl⟩
  rw [show (decide ((1 : Int) ≤ 6) && decide ((6 : Int) ≤ 5)) = false from rfl]
  go_wp2_with fail
  refine (At_some 6 _ _ _).mono ?_
  rintro e w1 ⟨rfl, rfl⟩
  go_wp2
  go_ret2
  exact ⟨_, rfl, Ch.push 6 Ch.base, below_alloc (Below.refl _ _) _⟩
end
end Go.Proofs.YtihjklimcchkhaaGreatDoor
