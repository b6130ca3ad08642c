import Derived.Test.YtdojgjainfelcaaDoorE
namespace Go.Proofs.YtdojgjainfelcaaDoor
open Go.RowKit Go.Extern.Stop Go.Stop Go.Extern

/-- In world w the error v is the error t wrapped at the places ps, the outermost first; each Woe lies in a block below n, and above those of what it wraps. -/
inductive Chain (w : World) (t : Value) : Nat → List Int → Value → Prop
  | base (n : Nat) : Chain w t n [] t
  | woe {n b : Nat} {p : Int} {ps : List Int} {e : Value} {T : TypeId} (hn : b < n) (h0 : w.cell? ⟨b, 0, none⟩ = some (.int .i64 p)) (h1 : w.cell? ⟨b, 1, none⟩ = some e)
      (hz : w.heap[b]? = some (.cells #[.int .i64 p, e] T)) (r : Chain w t b ps e) : Chain w t n (p :: ps) (.iface 40 (.pointer (some ⟨b, 0, none⟩)))

/-- How deep an error's block lies. -/
def deep : Value → Nat
  | .iface 40 (.pointer (some a)) => a.block + 1
  | _ => 0

def Str (v : Value) : Prop := ∃ a, v = .iface 71 (.pointer (some a))

theorem Tryd.compR71 (w : World) : ((Extern.ReflectliteType.method fun t => do Rtype.noPackHeld "Comparable" t; (fun a => Value.bool a.comparable) <$> typeInfo t) #[.agg #[.pointer (some ⟨12, 71, none⟩)]]).run Tryd.prog w = .ok (.bool true) w := by kernel_rfl
theorem Tryd.methodComparable (v : Value) (w : World) : (Go.method 227 83 v "Comparable").run Tryd.prog w = .ok (71, v) w := by kernel_rfl
theorem Tryd.comp71 : (Tryd.prog.info? 71).map (·.comparable) = some true := by kernel_rfl
theorem Tryd.size73 : (Tryd.prog.info? 73).map (·.size) = some 1 := by kernel_rfl

theorem eq_same (a : Addr) (w : World) : (binOp .eql 25 (.iface 71 (.pointer (some a))) (.iface 71 (.pointer (some a)))).run Tryd.prog w = .ok (.bool true) w := by
  obtain ⟨i, hi, hcmp⟩ := Option.map_eq_some_iff.1 Tryd.comp71
  obtain ⟨j, hj, hjs⟩ := Option.map_eq_some_iff.1 Tryd.size73
  exact run_eql_iface_ptr_same (P := Tryd.prog) w a Tryd.underlying25 Tryd.underlying71 hi hcmp hj
/-- A block of errors.New's make: not frozen. -/
def Blk (w : World) (a : Addr) : Prop := ∃ c t, w.heap[a.block]? = some (.cells c t (0, 0))
theorem eq_other (a b : Addr) (w : World) (hne : a ≠ b) (ha : Blk w a) (hb : Blk w b) : (binOp .eql 25 (.iface 71 (.pointer (some a))) (.iface 71 (.pointer (some b)))).run Tryd.prog w = .ok (.bool false) w := by
  obtain ⟨i, hi, hcmp⟩ := Option.map_eq_some_iff.1 Tryd.comp71
  obtain ⟨j, hj, hjs⟩ := Option.map_eq_some_iff.1 Tryd.size73
  obtain ⟨ca, ta, ha⟩ := ha
  obtain ⟨cb, tb, hb⟩ := hb
  exact run_eql_iface_ptr_other (P := Tryd.prog) w Tryd.underlying25 Tryd.underlying71 hi hcmp hj (by rw [hjs]; decide) hne ha hb
theorem eq_w (x y : Value) (w : World) : (binOp .eql 25 (.iface 40 x) (.iface 71 y)).run Tryd.prog w = .ok (.bool false) w :=
  run_eql_iface_types (P := Tryd.prog) 40 71 x y Tryd.underlying25 (by decide) w
theorem eq_j (x y : Value) (w : World) : (binOp .eql 25 (.iface 75 x) (.iface 71 y)).run Tryd.prog w = .ok (.bool false) w :=
  run_eql_iface_types (P := Tryd.prog) 75 71 x y Tryd.underlying25 (by decide) w

theorem Chain.shape {w : World} {t e : Value} {n : Nat} {ps : List Int} (h : Chain w t n ps e) (ht : ∃ T x, t = .iface T x) : ∃ T x, e = .iface T x := by
  cases h with
  | base => exact ht
  | woe => exact ⟨_, _, rfl⟩
theorem Chain.deep_le {w : World} {t e : Value} {n : Nat} {ps : List Int} (h : Chain w t n ps e) (ht : deep t = 0) : deep e ≤ n := by
  cases h with
  | base => omega
  | woe hn => exact hn

set_option maxHeartbeats 2000000 in
/-- errors.is at a chain that ends in an error of errors.New's make. -/
theorem is_chain_same (n : Nat) (ps : List Int) (a : Addr) (v : Value) (w : World) (hc : Chain w (.iface 71 (.pointer (some a))) n ps v) :
    Calls Tryd.prog 30 #[v, .iface 71 (.pointer (some a)), .bool true] w fun e w' => e = .returned (.bool true) ∧ w = w' := by
  have e1 := eq_same a
  have e2 := eq_w
  have n1 := Tryd.noIs40
  have n2 := Tryd.hasUnwrapW
  have n3 := Tryd.methodUnwrapW
  have HC : Hid (Chain w (.iface 71 (.pointer (some a))) n ps v) := hc
  clear hc
  go_enter Tryd.func30, Tryd.ntmps30
  go_wp2
  go_loop [0] (fun e => ∃ n ps, Chain w (.iface 71 (.pointer (some a))) n ps e) (fun e => deep e)
  case atStart => exact ⟨n, ps, HC.out⟩
  case round =>
    obtain ⟨n', ps', hrel⟩ := hrel
    clear HC
    cases hrel with
    | base =>
      go_wp2
      go_ret
      exact ⟨rfl, rfl⟩
    | woe hn h0 h1 hz r =>
      obtain ⟨T', x', rfl⟩ := r.shape ⟨_, _, rfl⟩
      have hr : Hid _ := r
      clear r
      clear hz h0
      go_wp2_with (go_at_call 21; refine (woe_unwrap _ _ _ h1).mono ?_; rintro e w' ⟨rfl, rfl⟩)
      go_round
      case rel => exact ⟨_, _, hr.out⟩
      case measure => exact Nat.lt_succ_of_le (hr.out.deep_le rfl)

set_option maxHeartbeats 2000000 in
theorem is_chain_other (n : Nat) (ps : List Int) (a b : Addr) (v : Value) (w : World) (hne : a ≠ b) (ha : Blk w a) (hb : Blk w b) (hc : Chain w (.iface 71 (.pointer (some a))) n ps v) :
    Calls Tryd.prog 30 #[v, .iface 71 (.pointer (some b)), .bool true] w fun e w' => e = .returned (.bool false) ∧ w = w' := by
  have e1 := eq_other a b w hne ha hb
  have e2 := eq_w
  have n1 := Tryd.noIs40
  have n2 := Tryd.hasUnwrapW
  have n3 := Tryd.methodUnwrapW
  have n4 := Tryd.noIs71
  have n5 := Tryd.noUnwrapE
  have n6 := Tryd.noUnwraps71
  have HC : Hid (Chain w (.iface 71 (.pointer (some a))) n ps v) := hc
  clear hc hne ha hb
  go_enter Tryd.func30, Tryd.ntmps30
  go_wp2
  go_loop [0] (fun e => ∃ n ps, Chain w (.iface 71 (.pointer (some a))) n ps e) (fun e => deep e)
  case atStart => exact ⟨n, ps, HC.out⟩
  case round =>
    obtain ⟨n', ps', hrel⟩ := hrel
    clear HC
    cases hrel with
    | base =>
      go_wp2
      go_ret
      exact ⟨rfl, rfl⟩
    | woe hn h0 h1 hz r =>
      obtain ⟨T', x', rfl⟩ := r.shape ⟨_, _, rfl⟩
      have hr : Hid _ := r
      clear r
      clear hz h0
      go_wp2_with (go_at_call 21; refine (woe_unwrap _ _ _ h1).mono ?_; rintro e w' ⟨rfl, rfl⟩)
      go_round
      case rel => exact ⟨_, _, hr.out⟩
      case measure => exact Nat.lt_succ_of_le (hr.out.deep_le rfl)

/-- errors.Is by errors.is. -/
theorem Is_of (T : TypeId) (x : Value) (b : Addr) (r : Bool) (w : World) (h : Calls Tryd.prog 30 #[.iface T x, .iface 71 (.pointer (some b)), .bool true] w fun e w' => e = .returned (.bool r) ∧ w = w') :
    Calls Tryd.prog 16 #[.iface T x, .iface 71 (.pointer (some b))] w fun e w' => e = .returned (.bool r) ∧ w = w' := by
  have h29 := @run_callFunc_extern Tryd.prog 29 _ ReflectliteType.typeOf Tryd.func29 (by kernel_rfl) (by kernel_rfl) (by kernel_rfl) (by kernel_rfl)
  have h71 := @run_callFunc_extern Tryd.prog 71 _ (Extern.ReflectliteType.method fun t => do Rtype.noPackHeld "Comparable" t; pure (.bool (← typeInfo t).comparable)) Tryd.func71 (by kernel_rfl) (by kernel_rfl) (by kernel_rfl) (by kernel_rfl)
  have t1 := Tryd.typeOf71
  have t2 := Tryd.compR71
  have t3 := Tryd.methodComparable
  go_enter Tryd.func16, Tryd.ntmps16
  go_wp2_with (go_at_call 30; refine h.mono ?_; rintro e w' ⟨rfl, rfl⟩)
  go_ret
  exact ⟨rfl, rfl⟩

/-- WHAT errors.Is ANSWERS at v and the error at b, in world w. -/
def IsC (w : World) (v : Value) (b : Addr) (r : Bool) : Prop :=
  (∃ T x, v = .iface T x) ∧ Calls Tryd.prog 30 #[v, .iface 71 (.pointer (some b)), .bool true] w fun e w' => e = .returned (.bool r) ∧ w = w'
theorem IsC.chain {w : World} {n : Nat} {ps : List Int} {a b : Addr} {v : Value} (hc : Chain w (.iface 71 (.pointer (some a))) n ps v) (h : a ≠ b → Blk w a ∧ Blk w b) : IsC w v b (decide (a = b)) := by
  refine ⟨hc.shape ⟨_, _, rfl⟩, ?_⟩
  by_cases e : a = b
  · subst e; simpa using is_chain_same n ps a v w hc
  · simpa [e] using is_chain_other n ps a b v w e (h e).1 (h e).2 hc
theorem IsC.Is {w : World} {v : Value} {b : Addr} {r : Bool} (h : IsC w v b r) : Calls Tryd.prog 16 #[v, .iface 71 (.pointer (some b))] w fun e w' => e = .returned (.bool r) ∧ w = w' := by
  obtain ⟨⟨T, x, rfl⟩, hc⟩ := h
  exact Is_of T x b r w hc
end Go.Proofs.YtdojgjainfelcaaDoor
