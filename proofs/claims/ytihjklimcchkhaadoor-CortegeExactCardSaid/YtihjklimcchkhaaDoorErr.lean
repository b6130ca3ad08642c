/- A template (fill.py): errors.Is at errors of errors.New's make, wrapped by Woes or not; At. -/
import Derived.Test.YtihjklimcchkhaaDoorProg
import Derived.WalkKit
import Derived.LaidEql
import Derived.Stop.Asserts
import Derived.RowKitTokens
import Derived.Below
import Derived.LoopTactic
import Derived.Laws.NewBlocks
namespace Go.Proofs.YtihjklimcchkhaaDoor
open Go.RowKit Go.Extern.Stop Go.Stop Go.Extern

theorem Tryd.hasUnwrapW (v : Value) (xT : TypeId) (w : World) : (Instr.typeAssert (.iface 59 v) xT 68 true).run Tryd.prog w = .ok (.tuple #[.iface 59 v, .bool true]) w := run_typeAssert_hasB Tryd.underlying68 (by kernel_rfl) v xT w
theorem Tryd.noUnwrapE (v : Value) (xT : TypeId) (w : World) : (Instr.typeAssert (.iface 93 v) xT 68 true).run Tryd.prog w = .ok (.tuple #[.nilIface, .bool false]) w := run_typeAssert_lacksB Tryd.underlying68 (by kernel_rfl) (by kernel_rfl) v xT w
theorem Tryd.noUnwraps71 (v : Value) (xT : TypeId) (w : World) : (Instr.typeAssert (.iface 93 v) xT 70 true).run Tryd.prog w = .ok (.tuple #[.nilIface, .bool false]) w := run_typeAssert_lacksB Tryd.underlying70 (by kernel_rfl) (by kernel_rfl) v xT w
theorem Tryd.noIs40 (v : Value) (xT : TypeId) (w : World) : (Instr.typeAssert (.iface 59 v) xT 65 true).run Tryd.prog w = .ok (.tuple #[.nilIface, .bool false]) w := run_typeAssert_lacksB Tryd.underlying65 (by kernel_rfl) (by kernel_rfl) v xT w
theorem Tryd.noIs71 (v : Value) (xT : TypeId) (w : World) : (Instr.typeAssert (.iface 93 v) xT 65 true).run Tryd.prog w = .ok (.tuple #[.nilIface, .bool false]) w := run_typeAssert_lacksB Tryd.underlying65 (by kernel_rfl) (by kernel_rfl) v xT w
theorem Tryd.methodUnwrapW (v : Value) (w : World) : (Go.method 231 59 v "Unwrap").run Tryd.prog w = .ok (61, v) w := by kernel_rfl
theorem Tryd.typeOf71 (v : Value) (w : World) : (ReflectliteType.typeOf #[.iface 93 v]).run Tryd.prog w = .ok (.iface 63 (.agg #[.pointer (some ⟨1, 93, none⟩)])) w := by kernel_rfl

theorem woe_unwrap (b : Nat) (v : Value) (w : World) (h : w.cell? ⟨b, 1, none⟩ = some v) :
    Calls Tryd.prog 61 #[.pointer (some ⟨b, 0, none⟩)] w fun e w' => e = .returned v ∧ w = w' := by
  go_enter Tryd.func61, Tryd.ntmps61
  go_wp2
  go_ret
  exact ⟨rfl, rfl⟩

theorem lt_of_cell {W : World} {a : Addr} {v : Value} (h : W.cell? a = some v) : a.block < W.heap.size := by
  rcases Nat.lt_or_ge a.block W.heap.size with h' | h'
  · exact h'
  · simp [World.cell?, Array.getElem?_eq_none h'] at h
theorem bcell {W w1 : World} (hb : Below W.heap.size W w1) : (∀ b o, b < W.heap.size → w1.cell? ⟨b, o, none⟩ = W.cell? ⟨b, o, none⟩) ∧ (∀ b o, b < W.heap.size → w1.frozen? ⟨b, o, none⟩ = W.frozen? ⟨b, o, none⟩) :=
  ⟨fun b o h => hb.cell (p := ⟨b, o, none⟩) h, fun b o h => hb.frozen (p := ⟨b, o, none⟩) h⟩

/-- In world w the error v is the error t wrapped at the places ps, the outermost first; each Woe lies in a block below n, and above those of what it wraps. -/
inductive Chain (w : World) (t : Value) : Nat → List Int → Value → Prop
  | base (n : Nat) : Chain w t n [] t
  | woe {n b : Nat} {p : Int} {ps : List Int} {e : Value} {T : TypeId} (hn : b < n) (h0 : w.cell? ⟨b, 0, none⟩ = some (.int .i64 p)) (h1 : w.cell? ⟨b, 1, none⟩ = some e)
      (hz : w.heap[b]? = some (.cells #[.int .i64 p, e] T)) (r : Chain w t b ps e) : Chain w t n (p :: ps) (.iface 59 (.pointer (some ⟨b, 0, none⟩)))

/-- How deep an error's block lies. -/
def deep : Value → Nat
  | .iface 59 (.pointer (some a)) => a.block + 1
  | _ => 0

theorem Tryd.compR71 (w : World) : ((Extern.ReflectliteType.method fun t => do Rtype.noPackHeld "Comparable" t; (fun a => Value.bool a.comparable) <$> typeInfo t) #[.agg #[.pointer (some ⟨1, 93, none⟩)]]).run Tryd.prog w = .ok (.bool true) w := by kernel_rfl
theorem Tryd.methodComparable (v : Value) (w : World) : (Go.method 231 63 v "Comparable").run Tryd.prog w = .ok (65, v) w := by kernel_rfl
theorem Tryd.comp71 : (Tryd.prog.info? 93).map (·.comparable) = some true := by kernel_rfl
theorem Tryd.size73 : (Tryd.prog.info? 119).map (·.size) = some 1 := by kernel_rfl

theorem eq_same (a : Addr) (w : World) : (binOp .eql 28 (.iface 93 (.pointer (some a))) (.iface 93 (.pointer (some a)))).run Tryd.prog w = .ok (.bool true) w := by
  obtain ⟨i, hi, hcmp⟩ := Option.map_eq_some_iff.1 Tryd.comp71
  obtain ⟨j, hj, hjs⟩ := Option.map_eq_some_iff.1 Tryd.size73
  exact run_eql_iface_ptr_same (P := Tryd.prog) w a Tryd.underlying28 Tryd.underlying93 hi hcmp hj
/-- A block of errors.New's make: not frozen. -/
def Blk (w : World) (a : Addr) : Prop := ∃ c t, w.heap[a.block]? = some (.cells c t (0, 0))
theorem eq_other (a b : Addr) (w : World) (hne : a ≠ b) (ha : Blk w a) (hb : Blk w b) : (binOp .eql 28 (.iface 93 (.pointer (some a))) (.iface 93 (.pointer (some b)))).run Tryd.prog w = .ok (.bool false) w := by
  obtain ⟨i, hi, hcmp⟩ := Option.map_eq_some_iff.1 Tryd.comp71
  obtain ⟨j, hj, hjs⟩ := Option.map_eq_some_iff.1 Tryd.size73
  obtain ⟨ca, ta, ha⟩ := ha
  obtain ⟨cb, tb, hb⟩ := hb
  exact run_eql_iface_ptr_other (P := Tryd.prog) w Tryd.underlying28 Tryd.underlying93 hi hcmp hj (by rw [hjs]; decide) hne ha hb
theorem eq_w (x y : Value) (w : World) : (binOp .eql 28 (.iface 59 x) (.iface 93 y)).run Tryd.prog w = .ok (.bool false) w :=
  run_eql_iface_types (P := Tryd.prog) 59 93 x y Tryd.underlying28 (by decide) w

theorem Chain.shape {w : World} {t e : Value} {n : Nat} {ps : List Int} (h : Chain w t n ps e) (ht : ∃ T x, t = .iface T x) : ∃ T x, e = .iface T x := by
  cases h with
  | base => exact ht
  | woe => exact ⟨_, _, rfl⟩
theorem Chain.deep_le {w : World} {t e : Value} {n : Nat} {ps : List Int} (h : Chain w t n ps e) (ht : deep t = 0) : deep e ≤ n := by
  cases h with
  | base => omega
  | woe hn => exact hn

set_option maxHeartbeats 2000000 in
/-- errors.is at a chain that ends in an error of errors.New's make. -/
theorem is_chain_same (n : Nat) (ps : List Int) (a : Addr) (v : Value) (w : World) (hc : Chain w (.iface 93 (.pointer (some a))) n ps v) :
    Calls Tryd.prog 13 #[v, .iface 93 (.pointer (some a)), .bool true] w fun e w' => e = .returned (.bool true) ∧ w = w' := by
  have e1 := eq_same a
  have e2 := eq_w
  have n1 := Tryd.noIs40
  have n2 := Tryd.hasUnwrapW
  have n3 := Tryd.methodUnwrapW
  have HC : Hid (Chain w (.iface 93 (.pointer (some a))) n ps v) := hc
  clear hc
  go_enter Tryd.func13, Tryd.ntmps13
  go_wp2
  go_loop [0] (fun e => ∃ n ps, Chain w (.iface 93 (.pointer (some a))) n ps e) (fun e => deep e)
  case atStart => exact ⟨n, ps, HC.out⟩
  case round =>
    obtain ⟨n', ps', hrel⟩ := hrel
    clear HC
    cases hrel with
    | base =>
      go_wp2
      go_ret
      exact ⟨rfl, rfl⟩
    | woe hn h0 h1 hz r =>
      obtain ⟨T', x', rfl⟩ := r.shape ⟨_, _, rfl⟩
      have hr : Hid _ := r
      clear r
      clear hz h0
      go_wp2_with (go_at_call 61; refine (woe_unwrap _ _ _ h1).mono ?_; rintro e w' ⟨rfl, rfl⟩)
      go_round
      case rel => exact ⟨_, _, hr.out⟩
      case measure => exact Nat.lt_succ_of_le (hr.out.deep_le rfl)

set_option maxHeartbeats 2000000 in
theorem is_chain_other (n : Nat) (ps : List Int) (a b : Addr) (v : Value) (w : World) (hne : a ≠ b) (ha : Blk w a) (hb : Blk w b) (hc : Chain w (.iface 93 (.pointer (some a))) n ps v) :
    Calls Tryd.prog 13 #[v, .iface 93 (.pointer (some b)), .bool true] w fun e w' => e = .returned (.bool false) ∧ w = w' := by
  have e1 := eq_other a b w hne ha hb
  have e2 := eq_w
  have n1 := Tryd.noIs40
  have n2 := Tryd.hasUnwrapW
  have n3 := Tryd.methodUnwrapW
  have n4 := Tryd.noIs71
  have n5 := Tryd.noUnwrapE
  have n6 := Tryd.noUnwraps71
  have HC : Hid (Chain w (.iface 93 (.pointer (some a))) n ps v) := hc
  clear hc hne ha hb
  go_enter Tryd.func13, Tryd.ntmps13
  go_wp2
  go_loop [0] (fun e => ∃ n ps, Chain w (.iface 93 (.pointer (some a))) n ps e) (fun e => deep e)
  case atStart => exact ⟨n, ps, HC.out⟩
  case round =>
    obtain ⟨n', ps', hrel⟩ := hrel
    clear HC
    cases hrel with
    | base =>
      go_wp2
      go_ret
      exact ⟨rfl, rfl⟩
    | woe hn h0 h1 hz r =>
      obtain ⟨T', x', rfl⟩ := r.shape ⟨_, _, rfl⟩
      have hr : Hid _ := r
      clear r
      clear hz h0
      go_wp2_with (go_at_call 61; refine (woe_unwrap _ _ _ h1).mono ?_; rintro e w' ⟨rfl, rfl⟩)
      go_round
      case rel => exact ⟨_, _, hr.out⟩
      case measure => exact Nat.lt_succ_of_le (hr.out.deep_le rfl)

/-- errors.Is by errors.is. -/
theorem Is_of (T : TypeId) (x : Value) (b : Addr) (r : Bool) (w : World) (h : Calls Tryd.prog 13 #[.iface T x, .iface 93 (.pointer (some b)), .bool true] w fun e w' => e = .returned (.bool r) ∧ w = w') :
    Calls Tryd.prog 7 #[.iface T x, .iface 93 (.pointer (some b))] w fun e w' => e = .returned (.bool r) ∧ w = w' := by
  have h29 := @run_callFunc_extern Tryd.prog 12 _ ReflectliteType.typeOf Tryd.func12 (by kernel_rfl) (by kernel_rfl) (by kernel_rfl) (by kernel_rfl)
  have h71 := @run_callFunc_extern Tryd.prog 65 _ (Extern.ReflectliteType.method fun t => do Rtype.noPackHeld "Comparable" t; pure (.bool (← typeInfo t).comparable)) Tryd.func65 (by kernel_rfl) (by kernel_rfl) (by kernel_rfl) (by kernel_rfl)
  have t1 := Tryd.typeOf71
  have t2 := Tryd.compR71
  have t3 := Tryd.methodComparable
  go_enter Tryd.func7, Tryd.ntmps7
  go_wp2_with (go_at_call 13; refine h.mono ?_; rintro e w' ⟨rfl, rfl⟩)
  go_ret
  exact ⟨rfl, rfl⟩

/-- WHAT errors.Is ANSWERS at v and the error at b, in world w. -/
def IsC (w : World) (v : Value) (b : Addr) (r : Bool) : Prop :=
  (∃ T x, v = .iface T x) ∧ Calls Tryd.prog 13 #[v, .iface 93 (.pointer (some b)), .bool true] w fun e w' => e = .returned (.bool r) ∧ w = w'
theorem IsC.chain {w : World} {n : Nat} {ps : List Int} {a b : Addr} {v : Value} (hc : Chain w (.iface 93 (.pointer (some a))) n ps v) (h : a ≠ b → Blk w a ∧ Blk w b) : IsC w v b (decide (a = b)) := by
  refine ⟨hc.shape ⟨_, _, rfl⟩, ?_⟩
  by_cases e : a = b
  · subst e; simpa using is_chain_same n ps a v w hc
  · simpa [e] using is_chain_other n ps a b v w e (h e).1 (h e).2 hc
theorem IsC.Is {w : World} {v : Value} {b : Addr} {r : Bool} (h : IsC w v b r) : Calls Tryd.prog 7 #[v, .iface 93 (.pointer (some b))] w fun e w' => e = .returned (.bool r) ∧ w = w' := by
  obtain ⟨⟨T, x, rfl⟩, hc⟩ := h
  exact Is_of T x b r w hc
theorem Blk.lt {W : World} {a : Addr} (h : Blk W a) : a.block < W.heap.size := by
  obtain ⟨c, t, h⟩ := h
  rcases Nat.lt_or_ge a.block W.heap.size with h' | h'
  · exact h'
  · rw [Array.getElem?_eq_none h'] at h; cases h
theorem Blk.keep {W w' : World} {a : Addr} (h : Blk W a) (hb : Below W.heap.size W w') : Blk w' a := by
  have := h.lt
  obtain ⟨c, t, h⟩ := h
  exact ⟨c, t, by rw [hb.block _ this]; exact h⟩
theorem Chain.keep {w w' : World} {t e : Value} {n B : Nat} {ps : List Int} (h : Chain w t n ps e) (hb : Below B w w') (hn : n ≤ B) : Chain w' t n ps e := by
  induction h with
  | base n => exact .base n
  | @woe n b p ps e T hlt h0 h1 hz r ih =>
    have hlB : b < B := by omega
    exact .woe hlt (by rw [hb.cell (p := ⟨b, 0, none⟩) hlB]; exact h0) (by rw [hb.cell (p := ⟨b, 1, none⟩) hlB]; exact h1) (by rw [hb.block _ hlB]; exact hz) (ih (by omega))
theorem Chain.mono {w : World} {t e : Value} {n n' : Nat} {ps : List Int} (h : Chain w t n ps e) (hn : n ≤ n') : Chain w t n' ps e := by
  cases h with
  | base => exact .base _
  | woe hlt h0 h1 hz r => exact .woe (by omega) h0 h1 hz r
/-- A chain in the world w, its blocks below the heap's end. -/
def Ch (w : World) (t : Value) (ps : List Int) (e : Value) : Prop := Chain w t w.heap.size ps e
theorem Ch.base {w : World} {t : Value} : Ch w t [] t := Chain.base _
theorem Ch.keep {w w' : World} {t e : Value} {ps : List Int} (h : Ch w t ps e) (hb : Below w.heap.size w w') : Ch w' t ps e :=
  (Chain.keep h hb (Nat.le_refl _)).mono hb.size
theorem Ch.push {w : World} {t e : Value} {ps : List Int} (p : Int) (h : Ch w t ps e) : Ch (w.alloc (.cells #[.int .i64 p, e] 61)) t (p :: ps) (.iface 59 (.pointer (some ⟨w.heap.size, 0, none⟩))) := by
  have hb : Below w.heap.size w (w.alloc (.cells #[.int .i64 p, e] 61)) := (Below.refl _ _).alloc (Nat.le_refl _) _
  refine .woe (T := 61) (by rw [World.size_alloc]; omega) (by simp) (by simp) ?_ (Chain.keep h hb (Nat.le_refl _))
  show (w.heap.push _)[w.heap.size]? = _
  simp
theorem Ch.shape {w : World} {T : TypeId} {x e : Value} {ps : List Int} (h : Ch w (.iface T x) ps e) : ∃ T x, e = .iface T x := Chain.shape h ⟨_, _, rfl⟩
theorem Ch.is {W : World} {a b : Addr} {ps : List Int} {v : Value} (h : Ch W (.iface 93 (.pointer (some a))) ps v) (ha : Blk W a) (hb : Blk W b) : IsC W v b (decide (a = b)) :=
  IsC.chain h (fun _ => ⟨ha, hb⟩)
theorem At_nil (p : Int) (w : World) : Calls Tryd.prog 11 #[.int .i64 p, .nilIface] w fun e w' => e = .returned .nilIface ∧ w = w' := by
  go_enter Tryd.func11, Tryd.ntmps11
  go_wp2
  go_ret
  exact ⟨rfl, rfl⟩
theorem At_some (p : Int) (T : TypeId) (x : Value) (w : World) : Calls Tryd.prog 11 #[.int .i64 p, .iface T x] w fun e w' => e = .returned (.iface 59 (.pointer (some ⟨w.heap.size, 0, none⟩))) ∧ w' = w.alloc (.cells #[.int .i64 p, .iface T x] 61) := by
  go_enter Tryd.func11, Tryd.ntmps11
  go_wp2
  go_ret
  exact ⟨rfl, rfl⟩
theorem At_ch {W : World} {T : TypeId} {x v : Value} {ps : List Int} (p : Int) (h : Ch W (.iface T x) ps v) :
    Calls Tryd.prog 11 #[.int .i64 p, v] W fun e w' => ∃ u, e = .returned u ∧ Ch w' (.iface T x) (p :: ps) u ∧ Below W.heap.size W w' := by
  obtain ⟨T', x', rfl⟩ := h.shape
  exact (At_some p T' x' W).mono fun e w' ⟨he, hw⟩ => ⟨_, he, by rw [hw]; exact h.push p, by rw [hw]; exact (Below.refl _ _).alloc (Nat.le_refl _) _⟩
theorem hid_trans {B : Nat} {a b c : World} (h : Hid (Below B a b)) (hB : B ≤ b.heap.size) (k : Below b.heap.size b c) : Hid (Below B a c) := h.out.trans (k.mono hB)
theorem hid_size {W b : World} (h : Hid (Below W.heap.size W b)) : W.heap.size ≤ b.heap.size := h.out.size
def True1 (W : World) (e : Ending) (w' : World) : Prop := e = .returned (.bool true) ∧ Below W.heap.size W w'
end Go.Proofs.YtihjklimcchkhaaDoor
