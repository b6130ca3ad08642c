import Derived.Test.YtdojgjainfelcaaDoorL
import Derived.MapKept
import Derived.OwnWalk
namespace Go.Proofs.YtdojgjainfelcaaDoor
open Go.RowKit Go.Extern.Stop Go.Stop Go.Extern

theorem Tryd.size44 : (Tryd.prog.info? 44).map (·.size) = some 2 := by kernel_rfl
theorem Tryd.zero54 (w : World) : (zeroValue 54).run Tryd.prog w = .ok (.agg #[]) w := by kernel_rfl
theorem ptr_ne_in (d : Nat) (a b : Addr) (w : World) (hne : a ≠ b) (ha : Blk w a) (hb : Blk w b) : (Op.equalIn (d + 1) 40 (.pointer (some a)) (.pointer (some b))).run Tryd.prog w = .ok false w := by
  obtain ⟨j, hj, hjs⟩ := Option.map_eq_some_iff.1 Tryd.size44
  obtain ⟨ca, ta, ha⟩ := ha
  obtain ⟨cb, tb, hb⟩ := hb
  simp [Op.equalIn, run_underlying Tryd.underlying40, sizeOf, typeInfo, hj, hjs, run_sameAddr_other w hne ha hb]
theorem ptr_ne (a b : Addr) (w : World) (hne : a ≠ b) (ha : Blk w a) (hb : Blk w b) : (Op.equal 40 (.pointer (some a)) (.pointer (some b))).run Tryd.prog w = .ok false w := by
  show (Op.equalIn (9999 + 1) 40 _ _).run Tryd.prog w = _
  exact ptr_ne_in 9999 a b w hne ha hb
theorem check40 (e : Bool) (n : Nat) (x : Option Addr) (w : World) : (Instr.checkKey e (n + 1) 40 (.pointer x)).run Tryd.prog w = .ok () w := by
  unfold Instr.checkKey
  simp [run_underlying Tryd.underlying40]
theorem check40' (e : Bool) (x : Option Addr) (w : World) : (Instr.checkKey e 10000 40 (.pointer x)).run Tryd.prog w = .ok () w := check40 e 9999 x w
/-- The map's entries: each key points to a block from n on. -/
def Keys (W : World) (n : Nat) (es : List MapEntry) : Prop := ∀ e ∈ es, ∃ b, e.key = .pointer (some ⟨b, 0, none⟩) ∧ n ≤ b ∧ Blk W ⟨b, 0, none⟩
theorem find_fresh (a : Nat) (w : World) (hw : Blk w ⟨a, 0, none⟩) : ∀ (es : List MapEntry) (i : Nat), Keys w (a + 1) es → (Instr.findAsking 40 (.pointer (some ⟨a, 0, none⟩)) es i).run Tryd.prog w = .ok none w
  | [], _, _ => rfl
  | e :: es, i, h => by
    obtain ⟨b, hk, hlt, hB⟩ := h e (List.mem_cons_self ..)
    have hne : (⟨a, 0, none⟩ : Addr) ≠ ⟨b, 0, none⟩ := by intro e; cases e; omega
    simp only [Instr.findAsking, Sem.run_bind, hk, ptr_ne _ _ w hne hw hB, Result.andThen]
    exact find_fresh a w hw es (i + 1) (fun e he => h e (List.mem_cons_of_mem _ he))
theorem findKey_fresh (a : Nat) (w : World) (hw : Blk w ⟨a, 0, none⟩) (es : List MapEntry) (h : Keys w (a + 1) es) : (Instr.findKey 40 (.pointer (some ⟨a, 0, none⟩)) es).run Tryd.prog w = .ok none w := by
  cases es with
  | nil => simp [Instr.findKey, run_underlying Tryd.underlying40, Instr.findNow]
  | cons e r =>
    have hf := find_fresh a w hw (e :: r) 0 h
    simp only [Instr.findKey, Sem.run_bind, run_underlying Tryd.underlying40, Result.andThen, Instr.findNow, Instr.sameNow]
    exact hf
theorem lookup_fresh (a m : Nat) (es : Array MapEntry) (c : Nat) (w : World) (hm : w.heap[m]? = some (.map es c)) (hw : Blk w ⟨a, 0, none⟩) (h : Keys w (a + 1) es.toList) :
    (Instr.lookup 53 (.map (some m)) (.pointer (some ⟨a, 0, none⟩)) true).run Tryd.prog w = .ok (.tuple #[.agg #[], .bool false]) w := by
  have h1 := findKey_fresh a w hw _ h
  simp only [Instr.lookup, Sem.run_bind, run_underlying Tryd.underlying53, MapKept.run_getObj_map hm, check40', Result.andThen]
  simp [h1, Result.andThen]
theorem update_fresh (a m : Nat) (es : Array MapEntry) (c : Nat) (w : World) (hm : w.heap[m]? = some (.map es c)) (hw : Blk w ⟨a, 0, none⟩) (h : Keys w (a + 1) es.toList) :
    (Instr.mapUpdate 53 (.map (some m)) (.pointer (some ⟨a, 0, none⟩)) (.agg #[])).run Tryd.prog w = .ok () { w with heap := w.heap.setIfInBounds m (.map (es.push { key := .pointer (some ⟨a, 0, none⟩), val := .agg #[], born := c }) (c + 1)) } := by
  have h1 := findKey_fresh a w hw _ h
  simp only [Instr.mapUpdate, Sem.run_bind, run_underlying Tryd.underlying53, Result.andThen]
  simp [MapKept.run_getObj_map hm, check40', h1, Result.andThen, MapKept.run_setObj_map _ hm]
end Go.Proofs.YtdojgjainfelcaaDoor
