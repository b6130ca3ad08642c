/- A template (fill.py): woe.Place at nil and at chains that end in an error of errors.New's make; errors.Unwrap, errors.As, endless, outermost on the way. -/
import Derived.Test.YtihjklimcchkhaaGreatDoorErr
import Derived.Defers
import Derived.Recover
import Derived.LoopTactic
import Derived.Lib.Hide
namespace Go.Proofs.YtihjklimcchkhaaGreatDoor
open Go.RowKit Go.Extern.Stop Go.Stop Go.Extern

/-- What the listed variable errors.errorType gives a walk. -/
def ErrType (W : World) : Prop := W.cell? ⟨8, 0, none⟩ = some (.iface 178 (.agg #[.pointer (some ⟨9, 38, none⟩)]))
theorem ErrType.keep {W w' : World} (h : ErrType W) (hb : Below W.heap.size W w') : ErrType w' := by
  unfold ErrType at h ⊢; rw [hb.cell (p := ⟨8, 0, none⟩) (lt_of_cell h)]; exact h
theorem hmf : ∀ (fn : Fn) (first cap : Array Value) (w : World), (Instr.makeFunc fn first cap).run Tryz.prog w = .ok (.func fn first cap) w := fun _ _ _ _ => rfl
theorem unwrap_woe (b : Nat) (v : Value) (w : World) (h : w.cell? ⟨b, 1, none⟩ = some v) :
    Calls Tryz.prog 52 #[.iface 158 (.pointer (some ⟨b, 0, none⟩))] w fun e w' => e = .returned v ∧ w = w' := by
  have h1 := Tryz.hasUnwrapW
  have h2 := Tryz.methodUnwrapW
  go_enter Tryz.func52, Tryz.ntmps52
  go_wp2
  go_ret
  exact ⟨rfl, rfl⟩
theorem unwrap_str (v : Value) (w : World) :
    Calls Tryz.prog 52 #[.iface 260 v] w fun e w' => e = .returned .nilIface ∧ w = w' := by
  have h1 := Tryz.noUnwrapE
  go_enter Tryz.func52, Tryz.ntmps52
  go_wp2
  go_ret
  exact ⟨rfl, rfl⟩
theorem catch_idle (w : World) :
    CallsD Tryz.prog 149 #[] .returning w fun e u' w' => e = .returned (.tuple #[]) ∧ u' = .returning ∧ w' = w := by
  refine callsD_of_wpS Tryz.func149 rfl fun c₀ cs hu => ?_
  apply wpS_region
  simp [wpOpsS, go_sem, recoverD, hu, Tryz.ntmps149]
  cases c₀
  simp_all [bodyPostS, results, Tryz.results149]
theorem calm_of (k : Nat) (cap : Array Value) (w : World) (R : World → Prop)
    (hk : ∀ w, (callFunc k cap).run Tryz.prog w = .ok (.enter k cap) w)
    (h : Calls Tryz.prog k cap w fun e w' => e = .returned (.tuple #[]) ∧ R w') :
    Calls Tryz.prog 108 #[.func (.func k) #[] cap] w fun e w' => e = .returned (.tuple #[]) ∧ R w' := by
  go_enter_defers Tryz.func108, Tryz.ntmps108
  go_wp2
  refine h.mono ?_
  rintro e w' ⟨rfl, hr⟩
  have hr' : Hid (R w') := hr
  clear hr
  go_wp2
  refine leaves_cons (f := 149) (args := #[]) (by simp) (by simp [go_sem]) ?_
  refine (catch_idle _).mono ?_
  rintro e u' w'' ⟨rfl, rfl, rfl⟩
  simp [Leaves, settle, results, Tryz.results108, go_sem]
  exact hr'
theorem enter40 (a b : Value) (w : World) : (callFunc 147 #[a, b]).run Tryz.prog w = .ok (.enter 147 #[a, b]) w := by kernel_rfl
theorem enter44 (a b : Value) (w : World) : (callFunc 148 #[a, b]).run Tryz.prog w = .ok (.enter 148 #[a, b]) w := by kernel_rfl
def IsErr (u : Value) : Prop := u = .nilIface ∨ ∃ T x, u = .iface T x
theorem IsErr.iface (T : TypeId) (x : Value) : IsErr (.iface T x) := .inr ⟨T, x, rfl⟩
theorem IsErr.nil : IsErr .nilIface := .inl rfl
theorem inner_body (a c : Nat) (v u old : Value) (w : World) (ie : IsErr u) (ha : w.cell? ⟨a, 0, none⟩ = some v) (hc : w.cell? ⟨c, 0, none⟩ = some old) (hf : w.frozen? ⟨c, 0, none⟩ = false)
    (hu : Calls Tryz.prog 52 #[v] w fun e w' => e = .returned u ∧ w = w') :
    Calls Tryz.prog 147 #[.pointer (some ⟨a, 0, none⟩), .pointer (some ⟨c, 0, none⟩)] w fun e w' => e = .returned (.tuple #[]) ∧ w' = w.setCell ⟨c, 0, none⟩ u := by
  rcases ie with rfl | ⟨T, x, rfl⟩
  all_goals
    go_enter Tryz.func147, Tryz.ntmps147
    go_wp2_with (go_at_call 52; refine hu.mono ?_; rintro e w' ⟨rfl, rfl⟩)
    go_end0
    exact ⟨rfl, rfl⟩
theorem inner_of (T : TypeId) (v u : Value) (W : World) (ie : IsErr u) (hu : ∀ w, Below W.heap.size W w → Calls Tryz.prog 52 #[.iface T v] w fun e w' => e = .returned u ∧ w = w') :
    Calls Tryz.prog 104 #[.iface T v] W fun e w' => e = .returned u ∧ Below W.heap.size W w' := by
  have h1 := hmf
  have hc := calm_of 147 _ ((W.alloc (.cells #[.iface T v] 38)).alloc (.cells #[.nilIface] 38)) _ (enter40 _ _) (inner_body W.heap.size (W.heap.size + 1) (.iface T v) u .nilIface _ ie (by simp) (by simp) (by simp) (hu _ (((Below.refl _ _).alloc (Nat.le_refl _) _).alloc (by simp) _)))
  clear hu ie
  go_enter Tryz.func104, Tryz.ntmps104
  go_wp2_with (go_at_call 108; refine hc.mono ?_; rintro e w' ⟨rfl, rfl⟩)
  go_ret
  refine ⟨by simp, ?_⟩
  exact ((Below.refl _ _).alloc (Nat.le_refl _) _).alloc (by simp) _
theorem inner_woe (b : Nat) (v : Value) (W : World) (ie : IsErr v) (h : W.cell? ⟨b, 1, none⟩ = some v) :
    Calls Tryz.prog 104 #[.iface 158 (.pointer (some ⟨b, 0, none⟩))] W fun e w' => e = .returned v ∧ Below W.heap.size W w' := by
  refine inner_of _ _ _ _ ie fun w hb => unwrap_woe b v w ?_
  rw [hb.cell (p := ⟨b, 1, none⟩)]; exact h
  rcases Nat.lt_or_ge b W.heap.size with h' | h'
  · exact h'
  · simp [World.cell?, Array.getElem?_eq_none h'] at h
theorem inner_str (v : Value) (W : World) :
    Calls Tryz.prog 104 #[.iface 260 v] W fun e w' => e = .returned .nilIface ∧ Below W.heap.size W w' :=
  inner_of _ _ _ _ .nil fun w _ => unwrap_str v w
theorem Tryz.valueOf96 (t : Addr) (w : World) : (ReflectliteValue.unpack (.iface 211 (.pointer (some t)))).run Tryz.prog w
    = .ok (.agg #[.pointer (some ⟨9, 211, none⟩), .pointer (some ⟨w.heap.size, 0, none⟩), .int .u64 150]) (w.alloc (.cells #[.pointer (some t)] 211)) := by kernel_rfl
theorem Tryz.type96 (a : Addr) (w : World) : (ReflectliteValue.methodAny (ReflectliteValue.valueError "reflectlite.Value.Type" 0) (fun t _ _ _ => ReflectliteType.toType t) #[.agg #[.pointer (some ⟨9, 211, none⟩), .pointer (some a), .int .u64 150]]).run Tryz.prog w
    = .ok (.iface 178 (.agg #[.pointer (some ⟨9, 211, none⟩)])) w := by kernel_rfl
theorem Tryz.methodKind (h : Value) (w : World) : (Go.method 393 178 (.agg #[h]) "Kind").run Tryz.prog w = .ok (206, h) w := by kernel_rfl
theorem Tryz.kind96 (w : World) : ((ReflectliteType.abiMethod fun t => (fun a : Nat => Value.int IntKind.u8 (a : Int)) <$> Rtype.kind t) #[.pointer (some ⟨9, 211, none⟩)]).run Tryz.prog w = .ok (.int .u8 22) w := by kernel_rfl
theorem Tryz.kind89 (w : World) : ((ReflectliteType.abiMethod fun t => (fun a : Nat => Value.int IntKind.u8 (a : Int)) <$> Rtype.kind t) #[.pointer (some ⟨9, 183, none⟩)]).run Tryz.prog w = .ok (.int .u8 20) w := by kernel_rfl
theorem rlm (z : Sem Value) (f : TypeId → Addr → Nat → Nat → Sem Value) (v : Value) :
    ReflectliteValue.method z f #[v] = (do match ← ReflectliteValue.parts v with | none => z | some (t, a, fl) => f t a fl (fl % 32)) := rfl
theorem Tryz.parts96 (a : Addr) (w : World) : (ReflectliteValue.parts (.agg #[.pointer (some ⟨9, 211, none⟩), .pointer (some a), .int .u64 150])).run Tryz.prog w = .ok (some (211, a, 150)) w := by kernel_rfl
theorem Tryz.isNil96 (a p : Addr) (W : World) (ha : W.cell? a = some (.pointer (some p))) :
    (ReflectliteValue.method (ReflectliteValue.valueError "reflectlite.Value.IsNil" 0) ReflectliteValue.isNil #[.agg #[.pointer (some ⟨9, 211, none⟩), .pointer (some a), .int .u64 150]]).run Tryz.prog W = .ok (.bool false) W := by
  rw [rlm]
  simp only [Sem.run_bind, Tryz.parts96, Result.andThen]
  simp [ReflectliteValue.isNil, loadVar, isAgg, underlying, Tryz.underlying211, ha, Result.andThen]
theorem Tryz.methodElem (h : Value) (w : World) : (Go.method 393 178 (.agg #[h]) "Elem").run Tryz.prog w = .ok (214, .agg #[h]) w := by kernel_rfl
theorem Tryz.methodImplements (h : Value) (w : World) : (Go.method 393 178 (.agg #[h]) "Implements").run Tryz.prog w = .ok (215, .agg #[h]) w := by kernel_rfl
theorem Tryz.methodAssignableTo (h : Value) (w : World) : (Go.method 393 178 (.agg #[h]) "AssignableTo").run Tryz.prog w = .ok (212, .agg #[h]) w := by kernel_rfl
theorem Tryz.elem96 (w : World) : (ReflectliteType.method ReflectliteType.elem #[.agg #[.pointer (some ⟨9, 211, none⟩)]]).run Tryz.prog w = .ok (.iface 178 (.agg #[.pointer (some ⟨9, 183, none⟩)])) w := by kernel_rfl
theorem Tryz.lack71 : (Tryz.prog.info? 260).map (fun i => (lacking #[("Unwrap", 185)] i.methods).isEmpty) = some false := by kernel_rfl
theorem Tryz.desc71 : (Tryz.prog.info? 260).map (·.desc) = some (.pointer 281) := by kernel_rfl
theorem Tryz.desc89 : (Tryz.prog.info? 183).map (·.desc) = some (.interface #[("Unwrap", 185)]) := by kernel_rfl
theorem Tryz.npm71 (what : String) (w : World) : (Rtype.noPackMethods what 260).run Tryz.prog w = .ok () w := by kernel_rfl
theorem Tryz.npm89 (what : String) (w : World) : (Rtype.noPackMethods what 183).run Tryz.prog w = .ok () w := by kernel_rfl
theorem Tryz.direct89_71 (w : World) : (Rtype.directlyAssignable 183 260).run Tryz.prog w = .ok false w := by kernel_rfl
theorem Tryz.ofR71 (w : World) : (ReflectliteType.ofRtype (.agg #[.pointer (some ⟨9, 260, none⟩)])).run Tryz.prog w = .ok 260 w := by kernel_rfl
theorem Tryz.ofR89 (w : World) : (ReflectliteType.ofRtype (.agg #[.pointer (some ⟨9, 183, none⟩)])).run Tryz.prog w = .ok 183 w := by kernel_rfl
theorem Tryz.impl89_71 (w : World) : (Rtype.implements 183 260).run Tryz.prog w = .ok false w := by
  obtain ⟨i, hi, hl⟩ := Option.map_eq_some_iff.1 Tryz.lack71
  obtain ⟨i', hi', hd⟩ := Option.map_eq_some_iff.1 Tryz.desc71
  obtain rfl := Option.some.inj (hi.symm.trans hi')
  obtain ⟨j, hj, hjd⟩ := Option.map_eq_some_iff.1 Tryz.desc89
  have hl' : lacking #[("Unwrap", 185)] i.methods ≠ [] := fun e => by rw [e] at hl; cases hl
  obtain ⟨m, hm⟩ := missingMethod_some hl'
  simp only [Rtype.implements, Sem.run_bind, Tryz.npm71, Tryz.npm89, Result.andThen, Rtype.under, typeInfo]
  simp [hjd, hd, hm, hi, hj]
theorem rlr (f : TypeId → TypeId → Sem Bool) (r v : Value) (T : TypeId) : ReflectliteType.relation "AssignableTo" f #[r, .iface T v] = (do pure (.bool (← f (← ReflectliteType.ofRtype v) (← ReflectliteType.ofRtype r)))) := rfl
theorem Tryz.assign71_89 (w : World) : (ReflectliteType.relation "AssignableTo" ReflectliteType.assignableTo #[.agg #[.pointer (some ⟨9, 260, none⟩)], .iface 178 (.agg #[.pointer (some ⟨9, 183, none⟩)])]).run Tryz.prog w = .ok (.bool false) w := by
  rw [rlr]
  simp only [Sem.run_bind, Tryz.ofR71, Tryz.ofR89, Result.andThen, ReflectliteType.assignableTo]
  simp [Tryz.npm71, Tryz.npm89, Tryz.direct89_71, Tryz.impl89_71, Result.andThen]
theorem Tryz.noAs71 (v : Value) (xT : TypeId) (w : World) : (Instr.typeAssert (.iface 260 v) xT 242 true).run Tryz.prog w = .ok (.tuple #[.nilIface, .bool false]) w := run_typeAssert_lacksB Tryz.underlying242 (by kernel_rfl) (by kernel_rfl) v xT w
theorem as_s89 (p t a : Addr) (w : World) :
    Calls Tryz.prog 153 #[.iface 260 (.pointer (some p)), .iface 211 (.pointer (some t)), .agg #[.pointer (some ⟨9, 211, none⟩), .pointer (some a), .int .u64 150], .iface 178 (.agg #[.pointer (some ⟨9, 183, none⟩)])] w
      fun ev w' => ev = .returned (.bool false) ∧ Below w.heap.size w w' := by
  have h29 := @run_callFunc_extern Tryz.prog 77 _ ReflectliteType.typeOf Tryz.func77 (by kernel_rfl) (by kernel_rfl) (by kernel_rfl) (by kernel_rfl)
  have h70 := @run_callFunc_extern Tryz.prog 212 _ (ReflectliteType.relation "AssignableTo" ReflectliteType.assignableTo) Tryz.func212 (by kernel_rfl) (by kernel_rfl) (by kernel_rfl) (by kernel_rfl)
  have t1 := Tryz.typeOf71
  have t2 := Tryz.methodAssignableTo
  have t3 := Tryz.assign71_89
  have t4 := Tryz.noAs71
  have t5 := Tryz.noUnwrapE
  have t6 := Tryz.noUnwraps71
  go_enter Tryz.func153, Tryz.ntmps153
  go_wp2
  refine wp_loop_rounds 1 ?_
  rw [rounds_succ]
  go_wp2
  go_ret
  exact ⟨rfl, (Below.refl _ _).alloc (Nat.le_refl _) _⟩
theorem As_s89 (p : Addr) (t : Nat) (old : Value) (w : World) (ht : w.cell? ⟨t, 0, none⟩ = some old) (_hf : w.frozen? ⟨t, 0, none⟩ = false) :
    Calls Tryz.prog 110 #[.iface 260 (.pointer (some p)), .iface 211 (.pointer (some ⟨t, 0, none⟩))] w
      fun ev w' => ev = .returned (.bool false) ∧ Below w.heap.size w w' := by
  have h31 := @run_callFunc_extern Tryz.prog 150 _ (fun args => ReflectliteValue.unpack (args.getD 0 (.tuple #[]))) Tryz.func150 (by kernel_rfl) (by kernel_rfl) (by kernel_rfl) (by kernel_rfl)
  have h32 := @run_callFunc_extern Tryz.prog 151 _ (ReflectliteValue.methodAny (ReflectliteValue.valueError "reflectlite.Value.Type" 0) (fun t _ _ _ => ReflectliteType.toType t)) Tryz.func151 (by kernel_rfl) (by kernel_rfl) (by kernel_rfl) (by kernel_rfl)
  have h33 := @run_callFunc_extern Tryz.prog 152 _ (ReflectliteValue.method (ReflectliteValue.valueError "reflectlite.Value.IsNil" 0) ReflectliteValue.isNil) Tryz.func152 (by kernel_rfl) (by kernel_rfl) (by kernel_rfl) (by kernel_rfl)
  have h60 := @run_callFunc_extern Tryz.prog 206 _ (ReflectliteType.abiMethod fun t => do pure (.int .u8 (← Rtype.kind t))) Tryz.func206 (by kernel_rfl) (by kernel_rfl) (by kernel_rfl) (by kernel_rfl)
  have h72 := @run_callFunc_extern Tryz.prog 214 _ (ReflectliteType.method ReflectliteType.elem) Tryz.func214 (by kernel_rfl) (by kernel_rfl) (by kernel_rfl) (by kernel_rfl)
  have h73 := @run_callFunc_extern Tryz.prog 215 _ (ReflectliteType.relation "Implements" ReflectliteType.implements_) Tryz.func215 (by kernel_rfl) (by kernel_rfl) (by kernel_rfl) (by kernel_rfl)
  have f6 := Tryz.valueOf96
  have f7 := Tryz.type96
  have mK := Tryz.methodKind
  have mE := Tryz.methodElem
  have mI := Tryz.methodImplements
  have k1 := Tryz.kind96
  have k2 := Tryz.kind89
  have e1 := Tryz.elem96
  have lt := lt_of_cell ht
  have n8 := Tryz.isNil96 ⟨w.heap.size, 0, none⟩ ⟨t, 0, none⟩ ((w.alloc (.cells #[.pointer (some ⟨t, 0, none⟩)] 211)).alloc (.cells #[.pointer (some ⟨9, 211, none⟩), .pointer (some ⟨w.heap.size, 0, none⟩), .int .u64 150] 216)) (by simp)
  have hc := as_s89 p ⟨t, 0, none⟩ ⟨w.heap.size, 0, none⟩ ((w.alloc (.cells #[.pointer (some ⟨t, 0, none⟩)] 211)).alloc (.cells #[.pointer (some ⟨9, 211, none⟩), .pointer (some ⟨w.heap.size, 0, none⟩), .int .u64 150] 216))
  go_enter Tryz.func110, Tryz.ntmps110
  go_wp2_with (go_at_call 153; refine hc.mono ?_; rintro e w' ⟨rfl, hb⟩)
  go_ret
  exact ⟨rfl, Below.trans (((Below.refl _ _).alloc (Nat.le_refl _) _).alloc (by simp) _) (hb.mono (by simp; omega))⟩
theorem branches_body_str (a c : Nat) (p : Addr) (w : World) (ha : w.cell? ⟨a, 0, none⟩ = some (.iface 260 (.pointer (some p)))) :
    Calls Tryz.prog 148 #[.pointer (some ⟨a, 0, none⟩), .pointer (some ⟨c, 0, none⟩)] w fun e w' => e = .returned (.tuple #[]) ∧ Below w.heap.size w w' := by
  have la := lt_of_cell ha
  have hc := As_s89 p w.heap.size .nilIface (w.alloc (.cells #[.nilIface] 183)) (by simp) (by simp)
  go_enter Tryz.func148, Tryz.ntmps148
  go_wp2_with (go_at_call 110; refine hc.mono ?_; rintro e w' ⟨rfl, hb⟩)
  go_end0
  exact ⟨rfl, ((Below.refl _ _).alloc (Nat.le_refl _) _).trans (hb.mono (by simp))⟩
theorem branches_str (p : Addr) (W : World) :
    Calls Tryz.prog 106 #[.iface 260 (.pointer (some p))] W fun e w' => e = .returned (.slice none 0 0) ∧ Below W.heap.size W w' := by
  have h1 := hmf
  have hc := calm_of 148 _ ((W.alloc (.cells #[.iface 260 (.pointer (some p))] 38)).alloc (.cells #[.slice none 0 0] 184)) _ (enter44 _ _) (branches_body_str W.heap.size (W.heap.size + 1) p _ (by simp))
  go_enter Tryz.func106, Tryz.ntmps106
  go_wp2_with (go_at_call 108; refine hc.mono ?_; rintro e w' ⟨rfl, hb⟩; have k1 := hb.cell (p := ⟨W.heap.size + 1, 0, none⟩) (by simp))
  go_ret
  exact ⟨rfl, Below.trans (((Below.refl _ _).alloc (Nat.le_refl _) _).alloc (by simp) _) (hb.mono (by simp; omega))⟩
theorem any_nil (r : Int) (W : World) :
    Calls Tryz.prog 105 #[.slice none 0 0, .int .i64 r] W fun e w' => e = .returned (.bool false) ∧ Below W.heap.size W w' := by
  go_enter Tryz.func105, Tryz.ntmps105
  go_wp2
  refine wp_loop_rounds 1 ?_
  rw [rounds_succ]
  go_wp2
  go_ret
  exact ⟨rfl, Below.refl _ _⟩
def EndsAt (m : Nat) (W : World) (t : Value) : Prop :=
  (∃ T x, t = .iface T x) ∧ deep t = 0 ∧ (∀ w1, Below W.heap.size W w1 → Calls Tryz.prog 104 #[t] w1 fun e w' => e = .returned .nilIface ∧ Below w1.heap.size w1 w') ∧
    ∃ s, (∀ w1, Below W.heap.size W w1 → Calls Tryz.prog 106 #[t] w1 fun e w' => e = .returned s ∧ Below w1.heap.size w1 w') ∧
      (∀ (r : Int) w1, Below W.heap.size W w1 → (m : Int) ≤ r → r ≤ 1048576 → Calls Tryz.prog 105 #[s, .int .i64 r] w1 fun e w' => e = .returned (.bool false) ∧ Below w1.heap.size w1 w')
theorem endless_gen (m : Nat) (t : Value) (W : World) (n : Nat) (ps : List Int) (v : Value) (room : Nat) (hroom : ps.length + m + 1 ≤ room) (hm : room ≤ 1048576) (hc : Chain W t n ps v) (hn : n ≤ W.heap.size) (ht : EndsAt m W t) :
    Calls Tryz.prog 83 #[v, .int .i64 room] W fun e w' => e = .returned (.bool false) ∧ Below W.heap.size W w' := by
  obtain ⟨hsh, hd, hI, s, hB, hA⟩ := ht
  have HI : Hid (∀ w1, Below W.heap.size W w1 → Calls Tryz.prog 104 #[t] w1 fun e w' => e = .returned .nilIface ∧ Below w1.heap.size w1 w') := hI
  have HB : Hid (∀ w1, Below W.heap.size W w1 → Calls Tryz.prog 106 #[t] w1 fun e w' => e = .returned s ∧ Below w1.heap.size w1 w') := hB
  have HA : Hid (∀ (r : Int) w1, Below W.heap.size W w1 → (m : Int) ≤ r → r ≤ 1048576 → Calls Tryz.prog 105 #[s, .int .i64 r] w1 fun e w' => e = .returned (.bool false) ∧ Below w1.heap.size w1 w') := hA
  have HC : Hid (Chain W t n ps v) := hc
  have HD : Hid (deep t = 0) := hd
  obtain ⟨T0, x0, rfl⟩ := hsh
  clear hI hB hA hc hd
  go_enter Tryz.func83, Tryz.ntmps83
  go_wp2
  go_loopw [0, 1] (fun e r wr => ∃ n ps k, Chain W (.iface T0 x0) n ps e ∧ n ≤ W.heap.size ∧ r = .int .i64 (k : Nat) ∧ ps.length + m + 1 ≤ k ∧ k ≤ 1048576 ∧ Below W.heap.size W wr) (fun e _ _ => deep e)
  case atStart => exact ⟨n, ps, room, HC.out, hn, rfl, hroom, hm, Below.refl _ _⟩
  case round =>
    obtain ⟨n', ps', k, hrel, hn', rfl, hk, hkm, hb⟩ := hrel
    have Hb : Hid _ := hb
    clear HC hb
    cases hrel with
    | base =>
      have hk4 : m + 1 ≤ k := by simp at hk; omega
      go_wp2_with (first
        | (go_at_call 104; refine (HI.out _ Hb.out).mono ?_; rintro e w1 ⟨rfl, hb1⟩; have Hb1 : Hid (Below W.heap.size W w1) := Hb.out.trans (hb1.mono Hb.out.size); clear hb1)
        | (go_at_call 106; refine (HB.out _ Hb1.out).mono ?_; rintro e w2 ⟨rfl, hb2⟩; have Hb2 : Hid (Below W.heap.size W w2) := Hb1.out.trans (hb2.mono Hb1.out.size); clear hb2)
        | (go_at_call 105; refine (HA.out _ _ Hb2.out (by omega) (by omega)).mono ?_; rintro e w3 ⟨rfl, hb3⟩; have Hb3 : Hid (Below W.heap.size W w3) := Hb2.out.trans (hb3.mono Hb2.out.size); clear hb3))
      go_ret
      exact ⟨rfl, Hb3.out⟩
    | @woe _ b p ps'' e' T' hlt h0 h1 hz r =>
      obtain ⟨T', x', rfl⟩ := r.shape ⟨_, _, rfl⟩
      have hr : Hid _ := r
      have hkk : ps''.length + m + 2 ≤ k := by simp at hk; omega
      have h1' : Hid (wr.cell? ⟨b, 1, none⟩ = some (.iface T' x')) := by
        show _ = _
        rw [Hb.out.cell (p := ⟨b, 1, none⟩) (by show b < _; omega)]; exact h1
      clear r hk h0 h1 hz
      go_wp2_with (go_at_call 104; refine (inner_woe b (.iface T' x') _ (.iface _ _) h1'.out).mono ?_; rintro e w1 ⟨rfl, hb1⟩; have Hb1 : Hid (Below W.heap.size W w1) := Hb.out.trans (hb1.mono Hb.out.size); clear hb1)
      go_roundw
      case rel => exact ⟨b, ps'', k - 1, hr.out, by omega, by go_num, by omega, by omega, Hb1.out⟩
      case measure => exact Nat.lt_succ_of_le (hr.out.deep_le HD.out)
theorem ends_str (p : Addr) (W : World) : EndsAt 0 W (.iface 260 (.pointer (some p))) :=
  ⟨⟨_, _, rfl⟩, rfl, fun w1 _ => inner_str _ w1, .slice none 0 0, fun w1 _ => branches_str p w1, fun r w1 _ _ _ => any_nil r w1⟩
theorem endless_str (n : Nat) (ps : List Int) (v : Value) (p : Addr) (W : World) (room : Int) (h0 : ps.length + 1 ≤ room) (hm : room ≤ 1048576) (hc : Chain W (.iface 260 (.pointer (some p))) n ps v) (hn : n ≤ W.heap.size) :
    Calls Tryz.prog 83 #[v, .int .i64 room] W fun e w' => e = .returned (.bool false) ∧ Below W.heap.size W w' := by
  obtain ⟨k, rfl⟩ : ∃ k : Nat, room = k := ⟨room.toNat, by omega⟩
  exact endless_gen 0 _ W n ps v k (by omega) (by omega) hc hn (ends_str p W)
def Ends (W : World) (v : Value) : Prop := (∃ T x, v = .iface T x) ∧ ∀ w1, Below W.heap.size W w1 → Calls Tryz.prog 83 #[v, .int .i64 1048576] w1 fun e w' => e = .returned (.bool false) ∧ Below w1.heap.size w1 w'
theorem Ch.ends {W : World} {a : Addr} {ps : List Int} {v : Value} (h : Ch W (.iface 260 (.pointer (some a))) ps v) (hl : ps.length ≤ 1000) : Ends W v :=
  ⟨h.shape, fun w1 hb => endless_str _ ps v a w1 1048576 (by omega) (by omega) (h.keep hb) (Nat.le_refl _)⟩
end Go.Proofs.YtihjklimcchkhaaGreatDoor
