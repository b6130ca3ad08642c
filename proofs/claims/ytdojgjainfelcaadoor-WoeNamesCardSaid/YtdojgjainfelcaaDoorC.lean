import Derived.Test.YtdojgjainfelcaaDoorB
namespace Go.Proofs.YtdojgjainfelcaaDoor
open Go.RowKit Go.Extern.Stop Go.Stop Go.Extern

/-! CLOSED FACTS on the model's entries for internal/reflectlite -/
theorem Tryd.valueOf42 (t : Addr) (w : World) : (ReflectliteValue.unpack (.iface 42 (.pointer (some t)))).run Tryd.prog w
    = .ok (.agg #[.pointer (some ⟨12, 42, none⟩), .pointer (some ⟨w.heap.size, 0, none⟩), .int .u64 150]) (w.alloc (.cells #[.pointer (some t)] 42)) := by kernel_rfl
theorem Tryd.valueOf96 (t : Addr) (w : World) : (ReflectliteValue.unpack (.iface 96 (.pointer (some t)))).run Tryd.prog w
    = .ok (.agg #[.pointer (some ⟨12, 96, none⟩), .pointer (some ⟨w.heap.size, 0, none⟩), .int .u64 150]) (w.alloc (.cells #[.pointer (some t)] 96)) := by kernel_rfl
theorem Tryd.valueOf40 (e : Addr) (w : World) : (ReflectliteValue.unpack (.iface 40 (.pointer (some e)))).run Tryd.prog w
    = .ok (.agg #[.pointer (some ⟨12, 40, none⟩), .pointer (some ⟨w.heap.size, 0, none⟩), .int .u64 150]) (w.alloc (.cells #[.pointer (some e)] 40)) := by kernel_rfl
theorem Tryd.valueOf75 (e : Addr) (w : World) : (ReflectliteValue.unpack (.iface 75 (.pointer (some e)))).run Tryd.prog w
    = .ok (.agg #[.pointer (some ⟨12, 75, none⟩), .pointer (some ⟨w.heap.size, 0, none⟩), .int .u64 150]) (w.alloc (.cells #[.pointer (some e)] 75)) := by kernel_rfl
theorem Tryd.type42 (a : Addr) (w : World) : (ReflectliteValue.methodAny (ReflectliteValue.valueError "reflectlite.Value.Type" 0) (fun t _ _ _ => ReflectliteType.toType t) #[.agg #[.pointer (some ⟨12, 42, none⟩), .pointer (some a), .int .u64 150]]).run Tryd.prog w
    = .ok (.iface 83 (.agg #[.pointer (some ⟨12, 42, none⟩)])) w := by kernel_rfl
theorem Tryd.type96 (a : Addr) (w : World) : (ReflectliteValue.methodAny (ReflectliteValue.valueError "reflectlite.Value.Type" 0) (fun t _ _ _ => ReflectliteType.toType t) #[.agg #[.pointer (some ⟨12, 96, none⟩), .pointer (some a), .int .u64 150]]).run Tryd.prog w
    = .ok (.iface 83 (.agg #[.pointer (some ⟨12, 96, none⟩)])) w := by kernel_rfl
theorem Tryd.methodKind (h : Value) (w : World) : (Go.method 227 83 (.agg #[h]) "Kind").run Tryd.prog w = .ok (60, h) w := by kernel_rfl
theorem Tryd.kind42 (w : World) : ((ReflectliteType.abiMethod fun t => (fun a : Nat => Value.int IntKind.u8 (a : Int)) <$> Rtype.kind t) #[.pointer (some ⟨12, 42, none⟩)]).run Tryd.prog w = .ok (.int .u8 22) w := by kernel_rfl
theorem Tryd.kind40 (w : World) : ((ReflectliteType.abiMethod fun t => (fun a : Nat => Value.int IntKind.u8 (a : Int)) <$> Rtype.kind t) #[.pointer (some ⟨12, 40, none⟩)]).run Tryd.prog w = .ok (.int .u8 22) w := by kernel_rfl
theorem Tryd.kind96 (w : World) : ((ReflectliteType.abiMethod fun t => (fun a : Nat => Value.int IntKind.u8 (a : Int)) <$> Rtype.kind t) #[.pointer (some ⟨12, 96, none⟩)]).run Tryd.prog w = .ok (.int .u8 22) w := by kernel_rfl
theorem Tryd.kind89 (w : World) : ((ReflectliteType.abiMethod fun t => (fun a : Nat => Value.int IntKind.u8 (a : Int)) <$> Rtype.kind t) #[.pointer (some ⟨12, 89, none⟩)]).run Tryd.prog w = .ok (.int .u8 20) w := by kernel_rfl
theorem rlm (z : Sem Value) (f : TypeId → Addr → Nat → Nat → Sem Value) (v : Value) :
    ReflectliteValue.method z f #[v] = (do match ← ReflectliteValue.parts v with | none => z | some (t, a, fl) => f t a fl (fl % 32)) := rfl
theorem Tryd.parts42 (a : Addr) (w : World) : (ReflectliteValue.parts (.agg #[.pointer (some ⟨12, 42, none⟩), .pointer (some a), .int .u64 150])).run Tryd.prog w = .ok (some (42, a, 150)) w := by kernel_rfl
theorem Tryd.parts96 (a : Addr) (w : World) : (ReflectliteValue.parts (.agg #[.pointer (some ⟨12, 96, none⟩), .pointer (some a), .int .u64 150])).run Tryd.prog w = .ok (some (96, a, 150)) w := by kernel_rfl
theorem Tryd.isNil42 (a p : Addr) (W : World) (ha : W.cell? a = some (.pointer (some p))) :
    (ReflectliteValue.method (ReflectliteValue.valueError "reflectlite.Value.IsNil" 0) ReflectliteValue.isNil #[.agg #[.pointer (some ⟨12, 42, none⟩), .pointer (some a), .int .u64 150]]).run Tryd.prog W = .ok (.bool false) W := by
  rw [rlm]
  simp only [Sem.run_bind, Tryd.parts42, Result.andThen]
  simp [ReflectliteValue.isNil, loadVar, isAgg, underlying, Tryd.underlying42, ha, Result.andThen]
theorem Tryd.isNil96 (a p : Addr) (W : World) (ha : W.cell? a = some (.pointer (some p))) :
    (ReflectliteValue.method (ReflectliteValue.valueError "reflectlite.Value.IsNil" 0) ReflectliteValue.isNil #[.agg #[.pointer (some ⟨12, 96, none⟩), .pointer (some a), .int .u64 150]]).run Tryd.prog W = .ok (.bool false) W := by
  rw [rlm]
  simp only [Sem.run_bind, Tryd.parts96, Result.andThen]
  simp [ReflectliteValue.isNil, loadVar, isAgg, underlying, Tryd.underlying96, ha, Result.andThen]
theorem Tryd.methodElem (h : Value) (w : World) : (Go.method 227 83 (.agg #[h]) "Elem").run Tryd.prog w = .ok (72, .agg #[h]) w := by kernel_rfl
theorem Tryd.methodImplements (h : Value) (w : World) : (Go.method 227 83 (.agg #[h]) "Implements").run Tryd.prog w = .ok (73, .agg #[h]) w := by kernel_rfl
theorem Tryd.methodAssignableTo (h : Value) (w : World) : (Go.method 227 83 (.agg #[h]) "AssignableTo").run Tryd.prog w = .ok (70, .agg #[h]) w := by kernel_rfl
theorem Tryd.elem42 (w : World) : (ReflectliteType.method ReflectliteType.elem #[.agg #[.pointer (some ⟨12, 42, none⟩)]]).run Tryd.prog w = .ok (.iface 83 (.agg #[.pointer (some ⟨12, 40, none⟩)])) w := by kernel_rfl
theorem Tryd.elem96 (w : World) : (ReflectliteType.method ReflectliteType.elem #[.agg #[.pointer (some ⟨12, 96, none⟩)]]).run Tryd.prog w = .ok (.iface 83 (.agg #[.pointer (some ⟨12, 89, none⟩)])) w := by kernel_rfl
theorem Tryd.implements40 (w : World) : (ReflectliteType.relation "Implements" ReflectliteType.implements_ #[.agg #[.pointer (some ⟨12, 40, none⟩)], .iface 83 (.agg #[.pointer (some ⟨12, 25, none⟩)])]).run Tryd.prog w = .ok (.bool true) w := by kernel_rfl
theorem Tryd.typeOf40 (v : Value) (w : World) : (ReflectliteType.typeOf #[.iface 40 v]).run Tryd.prog w = .ok (.iface 83 (.agg #[.pointer (some ⟨12, 40, none⟩)])) w := by kernel_rfl
theorem Tryd.typeOf71 (v : Value) (w : World) : (ReflectliteType.typeOf #[.iface 71 v]).run Tryd.prog w = .ok (.iface 83 (.agg #[.pointer (some ⟨12, 71, none⟩)])) w := by kernel_rfl
theorem Tryd.typeOf75 (v : Value) (w : World) : (ReflectliteType.typeOf #[.iface 75 v]).run Tryd.prog w = .ok (.iface 83 (.agg #[.pointer (some ⟨12, 75, none⟩)])) w := by kernel_rfl
theorem Tryd.assign40_40 (w : World) : (ReflectliteType.relation "AssignableTo" ReflectliteType.assignableTo #[.agg #[.pointer (some ⟨12, 40, none⟩)], .iface 83 (.agg #[.pointer (some ⟨12, 40, none⟩)])]).run Tryd.prog w = .ok (.bool true) w := by kernel_rfl
theorem Tryd.assign71_40 (w : World) : (ReflectliteType.relation "AssignableTo" ReflectliteType.assignableTo #[.agg #[.pointer (some ⟨12, 71, none⟩)], .iface 83 (.agg #[.pointer (some ⟨12, 40, none⟩)])]).run Tryd.prog w = .ok (.bool false) w := by kernel_rfl
theorem Tryd.lack71 : (Tryd.prog.info? 71).map (fun i => (lacking #[("Unwrap", 90)] i.methods).isEmpty) = some false := by kernel_rfl
theorem Tryd.desc71 : (Tryd.prog.info? 71).map (·.desc) = some (.pointer 73) := by kernel_rfl
theorem Tryd.desc89 : (Tryd.prog.info? 89).map (·.desc) = some (.interface #[("Unwrap", 90)]) := by kernel_rfl
theorem Tryd.npm71 (what : String) (w : World) : (Rtype.noPackMethods what 71).run Tryd.prog w = .ok () w := by kernel_rfl
theorem Tryd.npm89 (what : String) (w : World) : (Rtype.noPackMethods what 89).run Tryd.prog w = .ok () w := by kernel_rfl
theorem Tryd.direct89_71 (w : World) : (Rtype.directlyAssignable 89 71).run Tryd.prog w = .ok false w := by kernel_rfl
theorem Tryd.ofR71 (w : World) : (ReflectliteType.ofRtype (.agg #[.pointer (some ⟨12, 71, none⟩)])).run Tryd.prog w = .ok 71 w := by kernel_rfl
theorem Tryd.ofR89 (w : World) : (ReflectliteType.ofRtype (.agg #[.pointer (some ⟨12, 89, none⟩)])).run Tryd.prog w = .ok 89 w := by kernel_rfl
theorem Tryd.impl89_71 (w : World) : (Rtype.implements 89 71).run Tryd.prog w = .ok false w := by
  obtain ⟨i, hi, hl⟩ := Option.map_eq_some_iff.1 Tryd.lack71
  obtain ⟨i', hi', hd⟩ := Option.map_eq_some_iff.1 Tryd.desc71
  obtain rfl := Option.some.inj (hi.symm.trans hi')
  obtain ⟨j, hj, hjd⟩ := Option.map_eq_some_iff.1 Tryd.desc89
  have hl' : lacking #[("Unwrap", 90)] i.methods ≠ [] := fun e => by rw [e] at hl; cases hl
  obtain ⟨m, hm⟩ := missingMethod_some hl'
  simp only [Rtype.implements, Sem.run_bind, Tryd.npm71, Tryd.npm89, Result.andThen, Rtype.under, typeInfo]
  simp [hjd, hd, hm, hi, hj]
theorem rlr (f : TypeId → TypeId → Sem Bool) (r v : Value) (T : TypeId) : ReflectliteType.relation "AssignableTo" f #[r, .iface T v] = (do pure (.bool (← f (← ReflectliteType.ofRtype v) (← ReflectliteType.ofRtype r)))) := rfl
theorem Tryd.assign71_89 (w : World) : (ReflectliteType.relation "AssignableTo" ReflectliteType.assignableTo #[.agg #[.pointer (some ⟨12, 71, none⟩)], .iface 83 (.agg #[.pointer (some ⟨12, 89, none⟩)])]).run Tryd.prog w = .ok (.bool false) w := by
  rw [rlr]
  simp only [Sem.run_bind, Tryd.ofR71, Tryd.ofR89, Result.andThen, ReflectliteType.assignableTo]
  simp [Tryd.npm71, Tryd.npm89, Tryd.direct89_71, Tryd.impl89_71, Result.andThen]
theorem Tryd.assign75_89 (w : World) : (ReflectliteType.relation "AssignableTo" ReflectliteType.assignableTo #[.agg #[.pointer (some ⟨12, 75, none⟩)], .iface 83 (.agg #[.pointer (some ⟨12, 89, none⟩)])]).run Tryd.prog w = .ok (.bool true) w := by kernel_rfl
theorem Tryd.elemOf42 (w : World) : (Rtype.elem? 42).run Tryd.prog w = .ok (some 40) w := by kernel_rfl
theorem Tryd.elemOf96 (w : World) : (Rtype.elem? 96).run Tryd.prog w = .ok (some 89) w := by kernel_rfl
theorem Tryd.mk40 (p : Addr) (w : World) : (ReflectliteValue.mk 40 p ReflectliteValue.flagAddr).run Tryd.prog w = .ok (.agg #[.pointer (some ⟨12, 40, none⟩), .pointer (some p), .int .u64 406]) w := by kernel_rfl
theorem Tryd.mk89 (p : Addr) (w : World) : (ReflectliteValue.mk 89 p ReflectliteValue.flagAddr).run Tryd.prog w = .ok (.agg #[.pointer (some ⟨12, 89, none⟩), .pointer (some p), .int .u64 404]) w := by kernel_rfl
theorem Tryd.elemV42 (a p : Addr) (W : World) (ha : W.cell? a = some (.pointer (some p))) :
    (ReflectliteValue.method (ReflectliteValue.valueError "reflectlite.Value.Elem" 0) ReflectliteValue.elem #[.agg #[.pointer (some ⟨12, 42, none⟩), .pointer (some a), .int .u64 150]]).run Tryd.prog W
      = .ok (.agg #[.pointer (some ⟨12, 40, none⟩), .pointer (some p), .int .u64 406]) W := by
  rw [rlm]
  simp only [Sem.run_bind, Tryd.parts42, Result.andThen]
  simp [ReflectliteValue.elem, loadVar, isAgg, underlying, Tryd.underlying42, ha, Result.andThen, Tryd.elemOf42, Tryd.mk40]
theorem Tryd.elemV96 (a p : Addr) (W : World) (ha : W.cell? a = some (.pointer (some p))) :
    (ReflectliteValue.method (ReflectliteValue.valueError "reflectlite.Value.Elem" 0) ReflectliteValue.elem #[.agg #[.pointer (some ⟨12, 96, none⟩), .pointer (some a), .int .u64 150]]).run Tryd.prog W
      = .ok (.agg #[.pointer (some ⟨12, 89, none⟩), .pointer (some p), .int .u64 404]) W := by
  rw [rlm]
  simp only [Sem.run_bind, Tryd.parts96, Result.andThen]
  simp [ReflectliteValue.elem, loadVar, isAgg, underlying, Tryd.underlying96, ha, Result.andThen, Tryd.elemOf96, Tryd.mk89]
theorem rls (v x : Value) : ReflectliteValue.set #[v, x] = (do
    let (some (dst, a, fl), some (src, b, _)) := (← ReflectliteValue.parts v, ← ReflectliteValue.parts x)
      | unsupported (.noEntry "extern/(internal/reflectlite.Value).Set.zeroValue")
    if fl / ReflectliteValue.flagAddr % 2 == 0 then unsupported (.noEntry "extern/(internal/reflectlite.Value).Set.unaddressable")
    let val ← loadVar src b
    if ← Rtype.directlyAssignable dst src then storeVar dst a val
    else if ← Rtype.implements dst src then
      if (← Rtype.kind src) == 20 then
        match val with
        | .nilIface => unsupported (.noEntry "extern/reflectlite: a nil value of one interface type handed on as a value of another")
        | _ => storeVar dst a val
      else storeVar dst a (.iface src val)
    else panicString ("reflectlite.Set: value of type " ++ (← Rtype.spelt src) ++ " is not assignable to type " ++ (← Rtype.spelt dst))
    pure (.tuple #[])) := rfl
theorem Tryd.parts40a (a : Addr) (w : World) : (ReflectliteValue.parts (.agg #[.pointer (some ⟨12, 40, none⟩), .pointer (some a), .int .u64 406])).run Tryd.prog w = .ok (some (40, a, 406)) w := by kernel_rfl
theorem Tryd.parts89a (a : Addr) (w : World) : (ReflectliteValue.parts (.agg #[.pointer (some ⟨12, 89, none⟩), .pointer (some a), .int .u64 404])).run Tryd.prog w = .ok (some (89, a, 404)) w := by kernel_rfl
theorem Tryd.parts40 (a : Addr) (w : World) : (ReflectliteValue.parts (.agg #[.pointer (some ⟨12, 40, none⟩), .pointer (some a), .int .u64 150])).run Tryd.prog w = .ok (some (40, a, 150)) w := by kernel_rfl
theorem Tryd.parts75 (a : Addr) (w : World) : (ReflectliteValue.parts (.agg #[.pointer (some ⟨12, 75, none⟩), .pointer (some a), .int .u64 150])).run Tryd.prog w = .ok (some (75, a, 150)) w := by kernel_rfl
theorem Tryd.direct40 (w : World) : (Rtype.directlyAssignable 40 40).run Tryd.prog w = .ok true w := by kernel_rfl
theorem Tryd.direct89 (w : World) : (Rtype.directlyAssignable 89 75).run Tryd.prog w = .ok false w := by kernel_rfl
theorem Tryd.impl89 (w : World) : (Rtype.implements 89 75).run Tryd.prog w = .ok true w := by kernel_rfl
theorem Tryd.kindR75 (w : World) : (Rtype.kind 75).run Tryd.prog w = .ok 22 w := by kernel_rfl
theorem Tryd.set40 (ta b e : Addr) (old : Value) (W : World) (hb : W.cell? b = some (.pointer (some e))) (ht : W.cell? ta = some old) (hf : W.frozen? ta = false) :
    (ReflectliteValue.set #[.agg #[.pointer (some ⟨12, 40, none⟩), .pointer (some ta), .int .u64 406], .agg #[.pointer (some ⟨12, 40, none⟩), .pointer (some b), .int .u64 150]]).run Tryd.prog W
      = .ok (.tuple #[]) (W.setCell ta (.pointer (some e))) := by
  rw [rls]
  simp only [Sem.run_bind, Tryd.parts40a, Tryd.parts40, Result.andThen]
  simp [ReflectliteValue.flagAddr, loadVar, isAgg, underlying, Tryd.underlying40, hb, Result.andThen, Tryd.direct40, storeVar, Value.cells, storeCells, Addr.add]
  rw [run_store Tryd.prog W ta _ _ (by rfl)]
  simp [ht, hf]
theorem Tryd.set89 (ta b e : Addr) (old : Value) (W : World) (hb : W.cell? b = some (.pointer (some e))) (ht : W.cell? ta = some old) (hf : W.frozen? ta = false) :
    (ReflectliteValue.set #[.agg #[.pointer (some ⟨12, 89, none⟩), .pointer (some ta), .int .u64 404], .agg #[.pointer (some ⟨12, 75, none⟩), .pointer (some b), .int .u64 150]]).run Tryd.prog W
      = .ok (.tuple #[]) (W.setCell ta (.iface 75 (.pointer (some e)))) := by
  rw [rls]
  simp only [Sem.run_bind, Tryd.parts89a, Tryd.parts75, Result.andThen]
  simp [ReflectliteValue.flagAddr, loadVar, isAgg, underlying, Tryd.underlying75, hb, Result.andThen, Tryd.direct89, Tryd.impl89, Tryd.kindR75, storeVar, Value.cells, storeCells, Addr.add]
  rw [run_store Tryd.prog W ta _ _ (by rfl)]
  simp [ht, hf]
/-! what the assertions of package errors find -/
theorem Tryd.noAs40 (v : Value) (xT : TypeId) (w : World) : (Instr.typeAssert (.iface 40 v) xT 93 true).run Tryd.prog w = .ok (.tuple #[.nilIface, .bool false]) w := run_typeAssert_lacksB Tryd.underlying93 (by kernel_rfl) (by kernel_rfl) v xT w
theorem Tryd.noAs71 (v : Value) (xT : TypeId) (w : World) : (Instr.typeAssert (.iface 71 v) xT 93 true).run Tryd.prog w = .ok (.tuple #[.nilIface, .bool false]) w := run_typeAssert_lacksB Tryd.underlying93 (by kernel_rfl) (by kernel_rfl) v xT w
theorem Tryd.noUnwraps71 (v : Value) (xT : TypeId) (w : World) : (Instr.typeAssert (.iface 71 v) xT 89 true).run Tryd.prog w = .ok (.tuple #[.nilIface, .bool false]) w := run_typeAssert_lacksB Tryd.underlying89 (by kernel_rfl) (by kernel_rfl) v xT w
theorem Tryd.hasUnwraps75 (v : Value) (xT : TypeId) (w : World) : (Instr.typeAssert (.iface 75 v) xT 89 true).run Tryd.prog w = .ok (.tuple #[.iface 75 v, .bool true]) w := run_typeAssert_hasB Tryd.underlying89 (by kernel_rfl) v xT w
theorem Tryd.noIs40 (v : Value) (xT : TypeId) (w : World) : (Instr.typeAssert (.iface 40 v) xT 85 true).run Tryd.prog w = .ok (.tuple #[.nilIface, .bool false]) w := run_typeAssert_lacksB Tryd.underlying85 (by kernel_rfl) (by kernel_rfl) v xT w
theorem Tryd.noIs71 (v : Value) (xT : TypeId) (w : World) : (Instr.typeAssert (.iface 71 v) xT 85 true).run Tryd.prog w = .ok (.tuple #[.nilIface, .bool false]) w := run_typeAssert_lacksB Tryd.underlying85 (by kernel_rfl) (by kernel_rfl) v xT w
theorem Tryd.noIs75 (v : Value) (xT : TypeId) (w : World) : (Instr.typeAssert (.iface 75 v) xT 85 true).run Tryd.prog w = .ok (.tuple #[.nilIface, .bool false]) w := run_typeAssert_lacksB Tryd.underlying85 (by kernel_rfl) (by kernel_rfl) v xT w
theorem Tryd.methodUnwrapJ (v : Value) (w : World) : (Go.method 227 75 v "Unwrap").run Tryd.prog w = .ok (68, v) w := by kernel_rfl

end Go.Proofs.YtdojgjainfelcaaDoor
