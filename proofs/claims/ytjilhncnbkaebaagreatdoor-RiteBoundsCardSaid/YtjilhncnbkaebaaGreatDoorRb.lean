/- rite: what an engine says; an announcement that is stored. A template (fill.py). -/
import Derived.Test.YtjilhncnbkaebaaGreatDoorRa
namespace Go.Proofs.YtjilhncnbkaebaaGreatDoor
open Go.RowKit Go.Extern.Stop Go.Stop Go.Extern Go.Sort
section
variable {w : World} {r : Nat} {sv fv nv : Value} {m : Rt}
theorem says_of {F : Nat} {b : Bool} {w : World} {r : Nat} (h : Calls Tryz.prog F #[.pointer (some ⟨r, 0, none⟩)] w fun e w' => e = .returned (.bool b) ∧ w = w') {c : Bool} (e : b = c) : Calls Tryz.prog F #[.pointer (some ⟨r, 0, none⟩)] w fun e w' => e = .returned (.bool c) ∧ w = w' := e ▸ h
theorem saysSpan_any (h : RtAt w r sv fv nv m) :
    Calls Tryz.prog 96 #[.pointer (some ⟨r, 0, none⟩)] w fun e w' => e = .returned (.bool m.saysSpan) ∧ w = w' := by
  have c := h.fix.1
  have hz := BlkW.lt h
  unfold Rt.saysSpan
  clear h
  by_cases e1 : m.eng = 4
  · rw [e1] at c ⊢
    go_enter Tryz.func96, Tryz.ntmps96
    go_wp2
    go_ret
    exact ⟨rfl, rfl⟩
  · have e2 : (m.eng == 4) = false := by simpa using e1
    go_enter Tryz.func96, Tryz.ntmps96
    go_wp2
    go_ret
    refine ⟨?_, rfl⟩
    by_cases e3 : m.eng = 5 <;> simp [e1, e3]
theorem saysWords_any (h : RtAt w r sv fv nv m) :
    Calls Tryz.prog 133 #[.pointer (some ⟨r, 0, none⟩)] w fun e w' => e = .returned (.bool m.saysWords) ∧ w = w' := by
  have c := h.fix.1
  have hz := BlkW.lt h
  unfold Rt.saysWords
  clear h
  by_cases e1 : m.eng = 2
  · rw [e1] at c ⊢
    go_enter Tryz.func133, Tryz.ntmps133
    go_wp2
    go_ret
    exact ⟨rfl, rfl⟩
  · have e2 : (m.eng == 2) = false := by simpa using e1
    go_enter Tryz.func133, Tryz.ntmps133
    go_wp2
    go_ret
    refine ⟨?_, rfl⟩
    by_cases e3 : m.eng = 3 <;> simp [e1, e3]
theorem countsEras_any (h : RtAt w r sv fv nv m) :
    Calls Tryz.prog 106 #[.pointer (some ⟨r, 0, none⟩)] w fun e w' => e = .returned (.bool m.countsEras) ∧ w = w' := by
  have c := h.fix.1
  have hz := BlkW.lt h
  unfold Rt.countsEras
  clear h
  by_cases e1 : m.eng = 3
  · rw [e1] at c ⊢
    go_enter Tryz.func106, Tryz.ntmps106
    go_wp2
    go_ret
    exact ⟨rfl, rfl⟩
  · have e2 : (m.eng == 3) = false := by simpa using e1
    go_enter Tryz.func106, Tryz.ntmps106
    go_wp2
    go_ret
    refine ⟨?_, rfl⟩
    by_cases e3 : m.eng = 5 <;> simp [e1, e3]
/-! ### an announcement -/
theorem keep_is (u n : Nat) (hu : u < 6) (hn : n < 9) (w : World) : Calls Tryz.prog 22 #[.int .i64 (u : Int), .int .i64 (n : Int)] w fun e w' => e = .returned (.tuple #[.agg #[.int .i64 0, .int .i64 0, .int .i64 ((keepAt u n : Nat) : Int)], .nilIface]) ∧ Below w.heap.size w w' := by
  have e : ((keepAt u n : Nat) : Int) = 25 + (u : Int) * 9 + n := by unfold keepAt; omega
  rw [e]
  exact Bd.Keep_yes (u : Int) n ⟨by omega, by omega⟩ w
theorem span_is (u : Nat) (hu : u < 6) (w : World) : Calls Tryz.prog 21 #[.int .i64 (u : Int)] w fun e w' => e = .returned (.tuple #[.agg #[.int .i64 0, .int .i64 0, .int .i64 ((spanAt u : Nat) : Int)], .nilIface]) ∧ Below w.heap.size w w' := by
  have e : ((spanAt u : Nat) : Int) = 79 + (u : Int) := by unfold spanAt; omega
  rw [e]
  exact Bd.Span_yes (u : Int) ⟨by omega, by omega⟩ w
def setK (m : Rt) (n : Nat) (d : Wd) : Rt := { m with kept := fun k => if k = n then d else m.kept k }
theorem RtAt.kept9 (h : RtAt w r sv fv nv m) {n : Nat} (hn : n < 9) : w.rangeAt r (57 + n * 5) (wc (m.kept n)) := by
  match n, hn with
  | 0, _ | 1, _ | 2, _ | 3, _ | 4, _ | 5, _ | 6, _ | 7, _ | 8, _ => exact h.range _ _ (by kernel_rfl)
theorem RtAt.setK (h : RtAt w r sv fv nv m) {n : Nat} (hn : n < 9) (d : Wd) : RtAt (w.setCells r (57 + n * 5) (wc d)) r sv fv nv (setK m n d) := by
  match n, hn with
  | 0, _ | 1, _ | 2, _ | 3, _ | 4, _ | 5, _ | 6, _ | 7, _ | 8, _ => exact h.puts _ _ (by kernel_rfl)
set_option maxRecDepth 100000 in
set_option maxHeartbeats 1000000 in
theorem say_any (h : RtAt w r sv fv nv m) (hm : m.me < 6) (n : Nat) (hn : n < 9) (d : Wd) :
    Calls Tryz.prog 102 #[.pointer (some ⟨r, 0, none⟩), .int .i64 (n : Int), wv d] w (Leaf w r sv fv nv (m.say n d)) := by
  have h1 := h.below (below_alloc (Below.refl _ _) (.cells #[.int .i64 d.slot, .int .i64 d.gen, .int .i64 d.tag, .int .i64 d.num, .bool d.mark] 34))
  have HO := Lib.hid (Only.of_below (r := r) (below_alloc (Below.refl w.heap.size w) (.cells #[.int .i64 d.slot, .int .i64 d.gen, .int .i64 d.tag, .int .i64 d.num, .bool d.mark] 34)))
  have HX := Lib.hid (BlkW.new w 34 #[.int .i64 d.slot, .int .i64 d.gen, .int .i64 d.tag, .int .i64 d.num, .bool d.mark])
  have hz := BlkW.lt h1
  have HR := Lib.hid h1
  have hi1 : (0 : Int) ≤ (n : Int) := by omega
  have hi2 : (n : Int) < 9 := by omega
  clear h h1
  unfold wv
  go_enter Tryz.func102, Tryz.ntmps102
  go_upto_region 1 with fail
  generalize w.alloc (.cells #[.int .i64 d.slot, .int .i64 d.gen, .int .i64 d.tag, .int .i64 d.num, .bool d.mark] 34) = W at HR HX HO hz ⊢
  have hX := HX.out
  have hzx := BlkW.lt hX
  have hrx : w.heap.size ≠ r := fun e => BlkW.ne_ hX HR.out (by decide) e
  obtain ⟨b0, b1, b2, b3, b4⟩ := cell5 hX
  have k0 : W.cell? ⟨r, 57 + n * 5, none⟩ = some (.int .i64 (m.kept n).slot) := HR.out.kept9 hn 0 _ rfl
  have k1 : W.cell? ⟨r, 57 + n * 5 + 1, none⟩ = some (.int .i64 (m.kept n).gen) := HR.out.kept9 hn 1 _ rfl
  have k2 : W.cell? ⟨r, 57 + n * 5 + 2, none⟩ = some (.int .i64 (m.kept n).tag) := HR.out.kept9 hn 2 _ rfl
  have k3 : W.cell? ⟨r, 57 + n * 5 + 3, none⟩ = some (.int .i64 (m.kept n).num) := HR.out.kept9 hn 3 _ rfl
  have k4 : W.cell? ⟨r, 57 + n * 5 + 4, none⟩ = some (.bool (m.kept n).mark) := HR.out.kept9 hn 4 _ rfl
  have fz : ∀ o, W.frozen? ⟨r, o, none⟩ = false := HR.out.frozen
  clear hX HX
  generalize w.heap.size = g at *
  go_region
  have R1 : RtAt (W.setCells r (57 + n * 5) (wc d)).drew r sv fv nv (setK m n d) := (HR.out.setK hn d).drew
  have O1 : Only r W (W.setCells r (57 + n * 5) (wc d)).drew := (Off.sets (K := fun j => j = r) (.inl rfl) _ _ (Off.refl _ W)).then (Below.refl _ _).drew
  have c0 := O1.cell hzx hrx b0
  have c1 := O1.cell hzx hrx b1
  have c2 := O1.cell hzx hrx b2
  have c3 := O1.cell hzx hrx b3
  have c4 := O1.cell hzx hrx b4
  have hz1 := Only.lt O1 hzx
  have HO1 := Lib.hid (HO.out.trans O1)
  clear b0 b1 b2 b3 b4 k0 k1 k2 k3 k4 fz HR HO O1
  show Exit.then _ _ _ _ (W.setCells r (57 + n * 5) (wc d)).drew
  generalize (W.setCells r (57 + n * 5) (wc d)).drew = W1 at R1 c0 c1 c2 c3 c4 hz1 HO1 ⊢
  have cm := R1.fix.2.1
  have hz2 := BlkW.lt R1
  have HR := Lib.hid R1
  clear R1 hz hzx
  go_wp2_with fail
  refine (keep_is m.me n hm hn _).mono ?_
  rintro e w2 ⟨rfl, hb⟩
  have HR2 := Lib.hid (HR.out.below hb)
  have HO2 := Lib.hid (HO1.out.trans (Only.of_below hb))
  have k0 := Only.cell (Only.of_below (r := r) hb) hz1 hrx c0
  have k1 := Only.cell (Only.of_below (r := r) hb) hz1 hrx c1
  have k2 := Only.cell (Only.of_below (r := r) hb) hz1 hrx c2
  have k3 := Only.cell (Only.of_below (r := r) hb) hz1 hrx c3
  have k4 := Only.cell (Only.of_below (r := r) hb) hz1 hrx c4
  have hz3 := Only.lt (Only.of_below (r := r) hb) hz1
  clear hb c0 c1 c2 c3 c4 cm hz1 hz2 HR HO1
  go_upto_region 3 with fail
  have hD := (HR2.out.below (below_alloc (Below.refl _ _) (.cells #[.int .i64 0, .int .i64 0, .int .i64 ((keepAt m.me n : Nat) : Int)] 47))).drew
  have HD := Lib.hid hD
  have HA := Lib.hid (announce_any hD ((keepAt m.me n : Nat) : Int) d)
  clear hD
  go_region_with (first | (go_at_call 129; refine HA.out.mono ?_; rintro e w3 ⟨rfl, h1, h2⟩))
  all_goals
    go_end0
    exact ⟨rfl, h1, Lib.hid ((HO2.out.trans (Only.of_below (below_alloc (Below.refl _ _) _).drew)).trans h2.out)⟩
end
end Go.Proofs.YtjilhncnbkaebaaGreatDoor
