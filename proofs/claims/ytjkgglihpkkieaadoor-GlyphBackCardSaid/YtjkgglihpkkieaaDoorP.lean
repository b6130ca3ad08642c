/- What the listed variables give a walk; strconv.Itoa in one; Pack of a word that can be. -/
import Derived.Test.YtjkgglihpkkieaaDoorG
import Derived.Test.YtjkgglihpkkieaaDoorShelf
import Derived.Deep.DeepFit
namespace Go.Proofs.YtjkgglihpkkieaaDoor
open Go.RowKit Go.Extern.Stop Go.Stop Go.Extern

theorem tabIs_below {W W' : World} {name : String} {k : IntKind} {zs : List Int} (h : Lib.TabIs Tryd.prog W name k zs) (hb : Below W.heap.size W W') : Lib.TabIs Tryd.prog W' name k zs := by
  unfold Lib.TabIs World.var? at *
  cases hg : Tryd.prog.globalNamed name with
  | none => simp [hg] at h
  | some g =>
    simp only [hg, Option.bind_some] at h ⊢
    have hlt : g < W.heap.size := by
      rcases Nat.lt_or_ge g W.heap.size with h' | h'
      · exact h'
      · rw [Array.getElem?_eq_none h'] at h; simp at h
    rw [hb.block g hlt]
    exact h

/-- What the listed variables give a walk: ErrArg at a, ErrWord at b, the powers of ten; and the library's own numbers. -/
structure Env (W : World) (a b : Addr) : Prop where
  arg : W.cell? ⟨0, 0, none⟩ = some (.iface 117 (.pointer (some a)))
  word : W.cell? ⟨1, 0, none⟩ = some (.iface 117 (.pointer (some b)))
  tab : Lib.TabIs Tryd.prog W "internal/strconv.uint64pow10" .u64 Lib.pow10Tab
  syn : ∃ t p, W.cell? ⟨3, 0, none⟩ = some (.iface t p)
  rng : ∃ t p, W.cell? ⟨4, 0, none⟩ = some (.iface t p)
  max : ∃ m, W.cell? ⟨5, 0, none⟩ = some (.int .i64 m)
theorem Env.keep {W W' : World} {a b : Addr} (h : Env W a b) (hb : Below W.heap.size W W') : Env W' a b := by
  obtain ⟨h1, h2, h3, ⟨t4, p4, h4⟩, ⟨t5, p5, h5⟩, ⟨m, h6⟩⟩ := h
  exact ⟨by rw [hb.cell (p := ⟨0, 0, none⟩) (lt_of_cell h1)]; exact h1, by rw [hb.cell (p := ⟨1, 0, none⟩) (lt_of_cell h2)]; exact h2, tabIs_below h3 hb,
    ⟨t4, p4, by rw [hb.cell (p := ⟨3, 0, none⟩) (lt_of_cell h4)]; exact h4⟩, ⟨t5, p5, by rw [hb.cell (p := ⟨4, 0, none⟩) (lt_of_cell h5)]; exact h5⟩, ⟨m, by rw [hb.cell (p := ⟨5, 0, none⟩) (lt_of_cell h6)]; exact h6⟩⟩
theorem below_grow (w : World) (k : Nat) (os : Array Obj) : Below w.heap.size w (Go.Sort.grow (w.drewN k) os) := by
  refine ⟨rfl, rfl, rfl, ?_, fun j hj => ?_⟩
  · show w.heap.size ≤ (w.heap ++ os).size
    simp
  · show (w.heap ++ os)[j]? = w.heap[j]?
    rw [Array.getElem?_append_left hj]
def itB (n : Int) : ByteArray := ⟨(Lib.itoa n).toArray⟩
theorem Itoa_any (n : Int) (h0 : -9223372036854775808 ≤ n) (h1 : n ≤ 9223372036854775807) (w : World) (htab : Lib.TabIs Tryd.prog w "internal/strconv.uint64pow10" .u64 Lib.pow10Tab) :
    Calls Tryd.prog 22 #[.int .i64 n] w fun e w' => e = .returned (.string (itB n)) ∧ Below w.heap.size w w' :=
  (Tryd.strconv_Itoa n h0 h1 w htab).mono fun e w' ⟨he, k, os, hw⟩ => ⟨he, by rw [hw]; exact below_grow w k os⟩

def txtB (a : Wd) : ByteArray := ⟨(txt a).toArray⟩
/-- The text behind k fields. -/
def pre0 (a : Wd) : ByteArray := if a.mark then ⟨#[109]⟩ else ⟨#[110]⟩
def pre1 (a : Wd) : ByteArray := pre0 a ++ (⟨#[46]⟩ ++ itB a.slot)
def pre2 (a : Wd) : ByteArray := pre1 a ++ (⟨#[46]⟩ ++ itB a.gen)
def pre3 (a : Wd) : ByteArray := pre2 a ++ (⟨#[46]⟩ ++ itB a.tag)
def pre4 (a : Wd) : ByteArray := pre3 a ++ (⟨#[46]⟩ ++ itB a.num)
theorem ba_ext {x y : ByteArray} (h : x.data.toList = y.data.toList) : x = y := by
  obtain ⟨⟨x⟩⟩ := x; obtain ⟨⟨y⟩⟩ := y; simp only at h; rw [h]
theorem pre4_eq (a : Wd) : pre4 a = txtB a := by
  apply ba_ext
  simp only [pre4, pre3, pre2, pre1, pre0, txtB, txt, itB, ByteArray.data_append, Array.toList_append]
  cases a.mark <;> simp
theorem itB_size (n : Int) (h1 : -1099511627776 ≤ n) (h2 : n ≤ 1099511627776) : (itB n).size ≤ 14 := by
  have := itoa_len n h1 h2
  simpa [itB, ByteArray.size] using this
theorem pre_size (a : Wd) (h : a.Good) : (pre0 a).size ≤ 100 ∧ (pre1 a).size ≤ 100 ∧ (pre2 a).size ≤ 100 ∧ (pre3 a).size ≤ 100 ∧ (pre4 a).size ≤ 100 := by
  obtain ⟨h1, h2, h3, h4, _⟩ := h
  have e1 := itB_size a.slot (by omega) (by omega)
  have e2 := itB_size a.gen (by omega) (by omega)
  have e3 := itB_size a.tag (by omega) (by omega)
  have e4 := itB_size a.num (by omega) (by omega)
  have e0 : (pre0 a).size = 1 := by unfold pre0; split <;> rfl
  have d : (⟨#[46]⟩ : ByteArray).size = 1 := rfl
  simp only [pre4, pre3, pre2, pre1, ByteArray.size_append]
  omega

/-- What holds at the loop's head. -/
def RelP (c : Wd) (w : World) (v i : Value) (wr : World) : Prop :=
  Below w.heap.size w wr ∧ ((i = .int .i64 0 ∧ v = .string (pre0 c)) ∨ (i = .int .i64 1 ∧ v = .string (pre1 c)) ∨ (i = .int .i64 2 ∧ v = .string (pre2 c)) ∨ (i = .int .i64 3 ∧ v = .string (pre3 c)) ∨ (i = .int .i64 4 ∧ v = .string (pre4 c)))
theorem idx49_0 (s g t n : Int) (w : World) : (Instr.index 49 (.agg #[.int .i64 s, .int .i64 g, .int .i64 t, .int .i64 n]) (.int .i64 0)).run Tryd.prog w = .ok (.int .i64 s) w := by kernel_rfl
theorem idx49_1 (s g t n : Int) (w : World) : (Instr.index 49 (.agg #[.int .i64 s, .int .i64 g, .int .i64 t, .int .i64 n]) (.int .i64 1)).run Tryd.prog w = .ok (.int .i64 g) w := by kernel_rfl
theorem idx49_2 (s g t n : Int) (w : World) : (Instr.index 49 (.agg #[.int .i64 s, .int .i64 g, .int .i64 t, .int .i64 n]) (.int .i64 2)).run Tryd.prog w = .ok (.int .i64 t) w := by kernel_rfl
theorem idx49_3 (s g t n : Int) (w : World) : (Instr.index 49 (.agg #[.int .i64 s, .int .i64 g, .int .i64 t, .int .i64 n]) (.int .i64 3)).run Tryd.prog w = .ok (.int .i64 n) w := by kernel_rfl
def Pck (w : World) (c : Wd) (e : Ending) (w' : World) : Prop := e = .returned (.tuple #[.string (txtB c), .nilIface]) ∧ Below w.heap.size w w'
set_option maxHeartbeats 1000000 in
set_option maxRecDepth 100000 in
theorem Pack_good (c : Wd) (hg : c.Good) (a b : Addr) (w : World) (L : Env w a b) :
    Calls Tryd.prog 9 #[.agg #[.int .i64 c.slot, .int .i64 c.gen, .int .i64 c.tag, .int .i64 c.num, .bool c.mark]] w (Pck w c) := by
  have G := Good_any c.slot c.gen c.tag c.num c.mark
  rw [goodB_iff, decide_eq_true hg] at G
  have HL : Hid _ := L
  have HG : Hid c.Good := hg
  clear L hg
  obtain ⟨s, g, t, n, m⟩ := c
  simp only at G ⊢
  obtain ⟨c, hcc⟩ : ∃ c : Wd, Hid (c = { slot := s, gen := g, tag := t, num := n, mark := m }) := ⟨_, rfl⟩
  have HP : Hid (Pck w { slot := s, gen := g, tag := t, num := n, mark := m } = Pck w c) := by show _ = _; rw [hcc.out]
  have HG : Hid c.Good := by show c.Good; rw [hcc.out]; exact HG.out
  rw [HP.out]
  clear HP
  have S := pre_size c HG.out
  have bd : (-1 < s ∧ s < 1025) ∧ (-1 < g ∧ g < 1099511627777) ∧ (-1 < t ∧ t < 1099511627777) ∧ (-1099511627777 < n ∧ n < 1099511627777) := by
    have := HG.out; rw [hcc.out] at this; obtain ⟨h1, h2, h3, h4, _⟩ := this; simp only at *; omega
  have I1 := itB_size s (by omega) (by omega)
  have I2 := itB_size g (by omega) (by omega)
  have I3 := itB_size t (by omega) (by omega)
  have I4 := itB_size n (by omega) (by omega)
  have H0 : Hid (pre0 c = if m then ⟨#[109]⟩ else ⟨#[110]⟩) := by show _ = _; rw [hcc.out]; rfl
  have H1 : Hid (pre1 c = pre0 c ++ (⟨#[46]⟩ ++ itB s)) := by show _ = _; rw [hcc.out]; rfl
  have H2 : Hid (pre2 c = pre1 c ++ (⟨#[46]⟩ ++ itB g)) := by show _ = _; rw [hcc.out]; rfl
  have H3 : Hid (pre3 c = pre2 c ++ (⟨#[46]⟩ ++ itB t)) := by show _ = _; rw [hcc.out]; rfl
  have H4 : Hid (pre4 c = pre3 c ++ (⟨#[46]⟩ ++ itB n)) := by show _ = _; rw [hcc.out]; rfl
  have x0 := idx49_0 s g t n
  have x1 := idx49_1 s g t n
  have x2 := idx49_2 s g t n
  have x3 := idx49_3 s g t n
  go_enter Tryd.func9, Tryd.ntmps9
  go_wp2_with fail
  refine (G _).mono ?_
  rintro e w1 ⟨rfl, hb⟩
  obtain ⟨hc, hf⟩ := bcell hb
  simp only [World.size_alloc] at hc hf
  have HB : Hid (Below w.heap.size w w1) := below_trans (below_alloc (Below.refl _ _) _) hb
  clear hb G
  cases m
  all_goals
    go_wp2_with fail
    go_loopw [4, 23] (RelP c w) (fun _ i _ => 4 - (intOf i).toNat)
    case atStart => exact ⟨HB.out, .inl ⟨rfl, by rw [H0.out]; rfl⟩⟩
    case round =>
      obtain ⟨hbr, hrel⟩ := hrel
      have HBr : Hid _ := hbr
      clear hbr
      rcases hrel with ⟨rfl, rfl⟩ | ⟨rfl, rfl⟩ | ⟨rfl, rfl⟩ | ⟨rfl, rfl⟩ | ⟨rfl, rfl⟩
      · go_wp2_with fail
        refine (Itoa_any s (by omega) (by omega) _ (HL.out.keep HBr.out).tab).mono ?_
        rintro e w2 ⟨rfl, hb⟩
        have HB2 : Hid (Below w.heap.size w w2) := below_trans HBr.out hb
        clear hb
        go_wp2
        go_roundw
        case rel => exact ⟨HB2.out, .inr (.inl ⟨rfl, by rw [H1.out]⟩)⟩
        case measure => simp [intOf]
      · go_wp2_with fail
        refine (Itoa_any g (by omega) (by omega) _ (HL.out.keep HBr.out).tab).mono ?_
        rintro e w2 ⟨rfl, hb⟩
        have HB2 : Hid (Below w.heap.size w w2) := below_trans HBr.out hb
        clear hb
        go_wp2
        go_roundw
        case rel => exact ⟨HB2.out, .inr (.inr (.inl ⟨rfl, by rw [H2.out]⟩))⟩
        case measure => simp [intOf]
      · go_wp2_with fail
        refine (Itoa_any t (by omega) (by omega) _ (HL.out.keep HBr.out).tab).mono ?_
        rintro e w2 ⟨rfl, hb⟩
        have HB2 : Hid (Below w.heap.size w w2) := below_trans HBr.out hb
        clear hb
        go_wp2
        go_roundw
        case rel => exact ⟨HB2.out, .inr (.inr (.inr (.inl ⟨rfl, by rw [H3.out]⟩)))⟩
        case measure => simp [intOf]
      · go_wp2_with fail
        refine (Itoa_any n (by omega) (by omega) _ (HL.out.keep HBr.out).tab).mono ?_
        rintro e w2 ⟨rfl, hb⟩
        have HB2 : Hid (Below w.heap.size w w2) := below_trans HBr.out hb
        clear hb
        go_wp2
        go_roundw
        case rel => exact ⟨HB2.out, .inr (.inr (.inr (.inr ⟨rfl, by rw [H4.out]⟩)))⟩
        case measure => simp [intOf]
      · go_wp2
        go_ret2
        exact ⟨by rw [← pre4_eq]; simp, HBr.out⟩
end Go.Proofs.YtjkgglihpkkieaaDoor
