/- A template (fill.py): errors.Is at errors of errors.New's make, wrapped by Woes or not; At. -/
import Derived.Test.YtihjklimcchkhaaGreatDoorProg
import Derived.WalkKit
import Derived.LaidEql
import Derived.Stop.Asserts
import Derived.RowKitTokens
import Derived.Below
import Derived.LoopTactic
import Derived.Laws.NewBlocks
namespace Go.Proofs.YtihjklimcchkhaaGreatDoor
open Go.RowKit Go.Extern.Stop Go.Stop Go.Extern

theorem Tryz.hasUnwrapW (v : Value) (xT : TypeId) (w : World) : (Instr.typeAssert (.iface 158 v) xT 162 true).run Tryz.prog w = .ok (.tuple #[.iface 158 v, .bool true]) w := run_typeAssert_hasB Tryz.underlying162 (by kernel_rfl) v xT w
theorem Tryz.noUnwrapE (v : Value) (xT : TypeId) (w : World) : (Instr.typeAssert (.iface 260 v) xT 162 true).run Tryz.prog w = .ok (.tuple #[.nilIface, .bool false]) w := run_typeAssert_lacksB Tryz.underlying162 (by kernel_rfl) (by kernel_rfl) v xT w
theorem Tryz.noUnwraps71 (v : Value) (xT : TypeId) (w : World) : (Instr.typeAssert (.iface 260 v) xT 183 true).run Tryz.prog w = .ok (.tuple #[.nilIface, .bool false]) w := run_typeAssert_lacksB Tryz.underlying183 (by kernel_rfl) (by kernel_rfl) v xT w
theorem Tryz.noIs40 (v : Value) (xT : TypeId) (w : World) : (Instr.typeAssert (.iface 158 v) xT 180 true).run Tryz.prog w = .ok (.tuple #[.nilIface, .bool false]) w := run_typeAssert_lacksB Tryz.underlying180 (by kernel_rfl) (by kernel_rfl) v xT w
theorem Tryz.noIs71 (v : Value) (xT : TypeId) (w : World) : (Instr.typeAssert (.iface 260 v) xT 180 true).run Tryz.prog w = .ok (.tuple #[.nilIface, .bool false]) w := run_typeAssert_lacksB Tryz.underlying180 (by kernel_rfl) (by kernel_rfl) v xT w
theorem Tryz.methodUnwrapW (v : Value) (w : World) : (Go.method 393 158 v "Unwrap").run Tryz.prog w = .ok (210, v) w := by kernel_rfl
theorem Tryz.typeOf71 (v : Value) (w : World) : (ReflectliteType.typeOf #[.iface 260 v]).run Tryz.prog w = .ok (.iface 178 (.agg #[.pointer (some ⟨9, 260, none⟩)])) w := by kernel_rfl

theorem woe_unwrap (b : Nat) (v : Value) (w : World) (h : w.cell? ⟨b, 1, none⟩ = some v) :
    Calls Tryz.prog 210 #[.pointer (some ⟨b, 0, none⟩)] w fun e w' => e = .returned v ∧ w = w' := by
  go_enter Tryz.func210, Tryz.ntmps210
  go_wp2
  go_ret
  exact ⟨rfl, rfl⟩

theorem lt_of_cell {W : World} {a : Addr} {v : Value} (h : W.cell? a = some v) : a.block < W.heap.size := by
  rcases Nat.lt_or_ge a.block W.heap.size with h' | h'
  · exact h'
  · simp [World.cell?, Array.getElem?_eq_none h'] at h
theorem bcell {W w1 : World} (hb : Below W.heap.size W w1) : (∀ b o, b < W.heap.size → w1.cell? ⟨b, o, none⟩ = W.cell? ⟨b, o, none⟩) ∧ (∀ b o, b < W.heap.size → w1.frozen? ⟨b, o, none⟩ = W.frozen? ⟨b, o, none⟩) :=
  ⟨fun b o h => hb.cell (p := ⟨b, o, none⟩) h, fun b o h => hb.frozen (p := ⟨b, o, none⟩) h⟩

/-- In world w the error v is the error t wrapped at the places ps, the outermost first; each Woe lies in a block below n, and above those of what it wraps. -/
inductive Chain (w : World) (t : Value) : Nat → List Int → Value → Prop
  | base (n : Nat) : Chain w t n [] t
  | woe {n b : Nat} {p : Int} {ps : List Int} {e : Value} {T : TypeId} (hn : b < n) (h0 : w.cell? ⟨b, 0, none⟩ = some (.int .i64 p)) (h1 : w.cell? ⟨b, 1, none⟩ = some e)
      (hz : w.heap[b]? = some (.cells #[.int .i64 p, e] T)) (r : Chain w t b ps e) : Chain w t n (p :: ps) (.iface 158 (.pointer (some ⟨b, 0, none⟩)))

/-- How deep an error's block lies. -/
def deep : Value → Nat
  | .iface 158 (.pointer (some a)) => a.block + 1
  | _ => 0

theorem Tryz.compR71 (w : World) : ((Extern.ReflectliteType.method fun t => do Rtype.noPackHeld "Comparable" t; (fun a => Value.bool a.comparable) <$> typeInfo t) #[.agg #[.pointer (some ⟨9, 260, none⟩)]]).run Tryz.prog w = .ok (.bool true) w := by kernel_rfl
theorem Tryz.methodComparable (v : Value) (w : World) : (Go.method 393 178 v "Comparable").run Tryz.prog w = .ok (213, v) w := by kernel_rfl
theorem Tryz.comp71 : (Tryz.prog.info? 260).map (·.comparable) = some true := by kernel_rfl
theorem Tryz.size73 : (Tryz.prog.info? 281).map (·.size) = some 1 := by kernel_rfl

theorem eq_same (a : Addr) (w : World) : (binOp .eql 38 (.iface 260 (.pointer (some a))) (.iface 260 (.pointer (some a)))).run Tryz.prog w = .ok (.bool true) w := by
  obtain ⟨i, hi, hcmp⟩ := Option.map_eq_some_iff.1 Tryz.comp71
  obtain ⟨j, hj, hjs⟩ := Option.map_eq_some_iff.1 Tryz.size73
  exact run_eql_iface_ptr_same (P := Tryz.prog) w a Tryz.underlying38 Tryz.underlying260 hi hcmp hj
/-- A block of errors.New's make: not frozen. -/
def Blk (w : World) (a : Addr) : Prop := ∃ c t, w.heap[a.block]? = some (.cells c t (0, 0))
theorem eq_other (a b : Addr) (w : World) (hne : a ≠ b) (ha : Blk w a) (hb : Blk w b) : (binOp .eql 38 (.iface 260 (.pointer (some a))) (.iface 260 (.pointer (some b)))).run Tryz.prog w = .ok (.bool false) w := by
  obtain ⟨i, hi, hcmp⟩ := Option.map_eq_some_iff.1 Tryz.comp71
  obtain ⟨j, hj, hjs⟩ := Option.map_eq_some_iff.1 Tryz.size73
  obtain ⟨ca, ta, ha⟩ := ha
  obtain ⟨cb, tb, hb⟩ := hb
  exact run_eql_iface_ptr_other (P := Tryz.prog) w Tryz.underlying38 Tryz.underlying260 hi hcmp hj (by rw [hjs]; decide) hne ha hb
theorem eq_w (x y : Value) (w : World) : (binOp .eql 38 (.iface 158 x) (.iface 260 y)).run Tryz.prog w = .ok (.bool false) w :=
  run_eql_iface_types (P := Tryz.prog) 158 260 x y Tryz.underlying38 (by decide) w

theorem Chain.shape {w : World} {t e : Value} {n : Nat} {ps : List Int} (h : Chain w t n ps e) (ht : ∃ T x, t = .iface T x) : ∃ T x, e = .iface T x := by
  cases h with
  | base => exact ht
  | woe => exact ⟨_, _, rfl⟩
theorem Chain.deep_le {w : World} {t e : Value} {n : Nat} {ps : List Int} (h : Chain w t n ps e) (ht : deep t = 0) : deep e ≤ n := by
  cases h with
  | base => omega
  | woe hn => exact hn

set_option maxHeartbeats 2000000 in
/-- errors.is at a chain that ends in an error of errors.New's make. -/
theorem is_chain_same (n : Nat) (ps : List Int) (a : Addr) (v : Value) (w : World) (hc : Chain w (.iface 260 (.pointer (some a))) n ps v) :
    Calls Tryz.prog 78 #[v, .iface 260 (.pointer (some a)), .bool true] w fun e w' => e = .returned (.bool true) ∧ w = w' := by
  have e1 := eq_same a
  have e2 := eq_w
  have n1 := Tryz.noIs40
  have n2 := Tryz.hasUnwrapW
  have n3 := Tryz.methodUnwrapW
  have HC : Hid (Chain w (.iface 260 (.pointer (some a))) n ps v) := hc
  clear hc
  go_enter Tryz.func78, Tryz.ntmps78
  go_wp2
  go_loop [0] (fun e => ∃ n ps, Chain w (.iface 260 (.pointer (some a))) n ps e) (fun e => deep e)
  case atStart => exact ⟨n, ps, HC.out⟩
  case round =>
    obtain ⟨n', ps', hrel⟩ := hrel
    clear HC
    cases hrel with
    | base =>
      go_wp2
      go_ret
      exact ⟨rfl, rfl⟩
    | woe hn h0 h1 hz r =>
      obtain ⟨T', x', rfl⟩ := r.shape ⟨_, _, rfl⟩
      have hr : Hid _ := r
      clear r
      clear hz h0
      go_wp2_with (go_at_call 210; refine (woe_unwrap _ _ _ h1).mono ?_; rintro e w' ⟨rfl, rfl⟩)
      go_round
      case rel => exact ⟨_, _, hr.out⟩
      case measure => exact Nat.lt_succ_of_le (hr.out.deep_le rfl)

set_option maxHeartbeats 2000000 in
theorem is_chain_other (n : Nat) (ps : List Int) (a b : Addr) (v : Value) (w : World) (hne : a ≠ b) (ha : Blk w a) (hb : Blk w b) (hc : Chain w (.iface 260 (.pointer (some a))) n ps v) :
    Calls Tryz.prog 78 #[v, .iface 260 (.pointer (some b)), .bool true] w fun e w' => e = .returned (.bool false) ∧ w = w' := by
  have e1 := eq_other a b w hne ha hb
  have e2 := eq_w
  have n1 := Tryz.noIs40
  have n2 := Tryz.hasUnwrapW
  have n3 := Tryz.methodUnwrapW
  have n4 := Tryz.noIs71
  have n5 := Tryz.noUnwrapE
  have n6 := Tryz.noUnwraps71
  have HC : Hid (Chain w (.iface 260 (.pointer (some a))) n ps v) := hc
  clear hc hne ha hb
  go_enter Tryz.func78, Tryz.ntmps78
  go_wp2
  go_loop [0] (fun e => ∃ n ps, Chain w (.iface 260 (.pointer (some a))) n ps e) (fun e => deep e)
  case atStart => exact ⟨n, ps, HC.out⟩
  case round =>
    obtain ⟨n', ps', hrel⟩ := hrel
    clear HC
    cases hrel with
    | base =>
      go_wp2
      go_ret
      exact ⟨rfl, rfl⟩
    | woe hn h0 h1 hz r =>
      obtain ⟨T', x', rfl⟩ := r.shape ⟨_, _, rfl⟩
      have hr : Hid _ := r
      clear r
      clear hz h0
      go_wp2_with (go_at_call 210; refine (woe_unwrap _ _ _ h1).mono ?_; rintro e w' ⟨rfl, rfl⟩)
      go_round
      case rel => exact ⟨_, _, hr.out⟩
      case measure => exact Nat.lt_succ_of_le (hr.out.deep_le rfl)

/-- errors.Is by errors.is. -/
theorem Is_of (T : TypeId) (x : Value) (b : Addr) (r : Bool) (w : World) (h : Calls Tryz.prog 78 #[.iface T x, .iface 260 (.pointer (some b)), .bool true] w fun e w' => e = .returned (.bool r) ∧ w = w') :
    Calls Tryz.prog 47 #[.iface T x, .iface 260 (.pointer (some b))] w fun e w' => e = .returned (.bool r) ∧ w = w' := by
  have h29 := @run_callFunc_extern Tryz.prog 77 _ ReflectliteType.typeOf Tryz.func77 (by kernel_rfl) (by kernel_rfl) (by kernel_rfl) (by kernel_rfl)
  have h71 := @run_callFunc_extern Tryz.prog 213 _ (Extern.ReflectliteType.method fun t => do Rtype.noPackHeld "Comparable" t; pure (.bool (← typeInfo t).comparable)) Tryz.func213 (by kernel_rfl) (by kernel_rfl) (by kernel_rfl) (by kernel_rfl)
  have t1 := Tryz.typeOf71
  have t2 := Tryz.compR71
  have t3 := Tryz.methodComparable
  go_enter Tryz.func47, Tryz.ntmps47
  go_wp2_with (go_at_call 78; refine h.mono ?_; rintro e w' ⟨rfl, rfl⟩)
  go_ret
  exact ⟨rfl, rfl⟩

/-- WHAT errors.Is ANSWERS at v and the error at b, in world w. -/
def IsC (w : World) (v : Value) (b : Addr) (r : Bool) : Prop :=
  (∃ T x, v = .iface T x) ∧ Calls Tryz.prog 78 #[v, .iface 260 (.pointer (some b)), .bool true] w fun e w' => e = .returned (.bool r) ∧ w = w'
theorem IsC.chain {w : World} {n : Nat} {ps : List Int} {a b : Addr} {v : Value} (hc : Chain w (.iface 260 (.pointer (some a))) n ps v) (h : a ≠ b → Blk w a ∧ Blk w b) : IsC w v b (decide (a = b)) := by
  refine ⟨hc.shape ⟨_, _, rfl⟩, ?_⟩
  by_cases e : a = b
  · subst e; simpa using is_chain_same n ps a v w hc
  · simpa [e] using is_chain_other n ps a b v w e (h e).1 (h e).2 hc
theorem IsC.Is {w : World} {v : Value} {b : Addr} {r : Bool} (h : IsC w v b r) : Calls Tryz.prog 47 #[v, .iface 260 (.pointer (some b))] w fun e w' => e = .returned (.bool r) ∧ w = w' := by
  obtain ⟨⟨T, x, rfl⟩, hc⟩ := h
  exact Is_of T x b r w hc
theorem Blk.lt {W : World} {a : Addr} (h : Blk W a) : a.block < W.heap.size := by
  obtain ⟨c, t, h⟩ := h
  rcases Nat.lt_or_ge a.block W.heap.size with h' | h'
  · exact h'
  · rw [Array.getElem?_eq_none h'] at h; cases h
theorem Blk.keep {W w' : World} {a : Addr} (h : Blk W a) (hb : Below W.heap.size W w') : Blk w' a := by
  have := h.lt
  obtain ⟨c, t, h⟩ := h
  exact ⟨c, t, by rw [hb.block _ this]; exact h⟩
theorem Chain.keep {w w' : World} {t e : Value} {n B : Nat} {ps : List Int} (h : Chain w t n ps e) (hb : Below B w w') (hn : n ≤ B) : Chain w' t n ps e := by
  induction h with
  | base n => exact .base n
  | @woe n b p ps e T hlt h0 h1 hz r ih =>
    have hlB : b < B := by omega
    exact .woe hlt (by rw [hb.cell (p := ⟨b, 0, none⟩) hlB]; exact h0) (by rw [hb.cell (p := ⟨b, 1, none⟩) hlB]; exact h1) (by rw [hb.block _ hlB]; exact hz) (ih (by omega))
theorem Chain.mono {w : World} {t e : Value} {n n' : Nat} {ps : List Int} (h : Chain w t n ps e) (hn : n ≤ n') : Chain w t n' ps e := by
  cases h with
  | base => exact .base _
  | woe hlt h0 h1 hz r => exact .woe (by omega) h0 h1 hz r
/-- A chain in the world w, its blocks below the heap's end. -/
def Ch (w : World) (t : Value) (ps : List Int) (e : Value) : Prop := Chain w t w.heap.size ps e
theorem Ch.base {w : World} {t : Value} : Ch w t [] t := Chain.base _
theorem Ch.keep {w w' : World} {t e : Value} {ps : List Int} (h : Ch w t ps e) (hb : Below w.heap.size w w') : Ch w' t ps e :=
  (Chain.keep h hb (Nat.le_refl _)).mono hb.size
theorem Ch.push {w : World} {t e : Value} {ps : List Int} (p : Int) (h : Ch w t ps e) : Ch (w.alloc (.cells #[.int .i64 p, e] 161)) t (p :: ps) (.iface 158 (.pointer (some ⟨w.heap.size, 0, none⟩))) := by
  have hb : Below w.heap.size w (w.alloc (.cells #[.int .i64 p, e] 161)) := (Below.refl _ _).alloc (Nat.le_refl _) _
  refine .woe (T := 161) (by rw [World.size_alloc]; omega) (by simp) (by simp) ?_ (Chain.keep h hb (Nat.le_refl _))
  show (w.heap.push _)[w.heap.size]? = _
  simp
theorem Ch.shape {w : World} {T : TypeId} {x e : Value} {ps : List Int} (h : Ch w (.iface T x) ps e) : ∃ T x, e = .iface T x := Chain.shape h ⟨_, _, rfl⟩
theorem Ch.is {W : World} {a b : Addr} {ps : List Int} {v : Value} (h : Ch W (.iface 260 (.pointer (some a))) ps v) (ha : Blk W a) (hb : Blk W b) : IsC W v b (decide (a = b)) :=
  IsC.chain h (fun _ => ⟨ha, hb⟩)
theorem At_some (p : Int) (T : TypeId) (x : Value) (w : World) : Calls Tryz.prog 51 #[.int .i64 p, .iface T x] w fun e w' => e = .returned (.iface 158 (.pointer (some ⟨w.heap.size, 0, none⟩))) ∧ w' = w.alloc (.cells #[.int .i64 p, .iface T x] 161) := by
  go_enter Tryz.func51, Tryz.ntmps51
  go_wp2
  go_ret
  exact ⟨rfl, rfl⟩
def True1 (W : World) (e : Ending) (w' : World) : Prop := e = .returned (.bool true) ∧ Below W.heap.size W w'
end Go.Proofs.YtihjklimcchkhaaGreatDoor
