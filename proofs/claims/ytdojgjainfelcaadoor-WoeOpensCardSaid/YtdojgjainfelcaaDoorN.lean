import Derived.Test.YtdojgjainfelcaaDoorM
namespace Go.Proofs.YtdojgjainfelcaaDoor
open Go.RowKit Go.Extern.Stop Go.Stop Go.Extern

structure PathInv (W wr : World) (n : Nat) (done : List Int) (v : Value) : Prop where
  own : wr.ownsRow (W.heap.size + 1) 3 1 v done.length (done.map (Value.int .i64))
  map : ∃ es c, wr.heap[W.heap.size]? = some (.map es c) ∧ Keys W n es.toList
  below : Below W.heap.size W wr

theorem Keys.mono {W : World} {n n' : Nat} {es : List MapEntry} (h : Keys W n es) (hn : n' ≤ n) : Keys W n' es :=
  fun e he => by obtain ⟨b, h1, h2, h3⟩ := h e he; exact ⟨b, h1, by omega, h3⟩
theorem Keys.keep {W w' : World} {n : Nat} {es : List MapEntry} (h : Keys W n es) (hb : Below W.heap.size W w') : Keys w' n es :=
  fun e he => by obtain ⟨b, h1, h2, h3⟩ := h e he; exact ⟨b, h1, h2, h3.keep hb⟩

theorem grown_upd (wr : World) (m : Nat) (o : Obj) (T : TypeId) : wr.grownBy { (wr.alloc (.cells #[] T)) with heap := (wr.alloc (.cells #[] T)).heap.setIfInBounds m o } (some m) :=
  ⟨rfl, rfl, rfl, by simp, fun k hk hne => by
    have : m ≠ k := fun e => hne (by rw [e])
    show ((wr.alloc (.cells #[] T)).heap.setIfInBounds m o)[k]? = _
    rw [Array.getElem?_setIfInBounds_ne this, Below.heap_alloc _ _ _ hk]⟩
theorem upd_step {W wr : World} {n b : Nat} {done : List Int} {v : Value} (inv : PathInv W wr n done v) (hbn : b < n) (hbB : Blk W ⟨b, 0, none⟩) :
    ∃ wr2, (Instr.mapUpdate 53 (.map (some W.heap.size)) (.pointer (some ⟨b, 0, none⟩)) (.agg #[])).run Tryd.prog (wr.alloc (.cells #[] 54)) = .ok () wr2 ∧ PathInv W wr2 b done v ∧ W.heap.size < wr2.heap.size := by
  obtain ⟨es, c, hm, hK⟩ := inv.map
  have hlt : W.heap.size < wr.heap.size := (Array.getElem?_eq_some_iff.1 hm).1
  have hba : Below wr.heap.size wr (wr.alloc (.cells #[] 54)) := (Below.refl _ _).alloc (Nat.le_refl _) _
  have hbw := (hbB.keep inv.below).keep hba
  have hm' : (wr.alloc (.cells #[] 54)).heap[W.heap.size]? = some (.map es c) := by rw [Below.heap_alloc _ _ _ hlt]; exact hm
  have hK' := ((hK.mono (by omega : b + 1 ≤ n)).keep inv.below).keep hba
  have hg := grown_upd wr W.heap.size (.map (es.push { key := .pointer (some ⟨b, 0, none⟩), val := .agg #[], born := c }) (c + 1)) 54
  refine ⟨_, update_fresh b W.heap.size es c _ hm' hbw hK', ⟨?_, ?_, ?_⟩, ?_⟩
  · refine inv.own.kept hg ?_
    cases hv : v.ownBlock with
    | none => exact .inl rfl
    | some k => exact .inr (fun e => by have := (inv.own.lt k hv).1; cases e; omega)
  · refine ⟨es.push { key := .pointer (some ⟨b, 0, none⟩), val := .agg #[], born := c }, c + 1, ?_, ?_⟩
    · show ((wr.alloc (.cells #[] 54)).heap.setIfInBounds W.heap.size _)[W.heap.size]? = _
      rw [Array.getElem?_setIfInBounds_self_of_lt (by simp; omega)]
    · intro e he
      rw [Array.toList_push, List.mem_append] at he
      rcases he with he | he
      · obtain ⟨b', h1, h2, h3⟩ := hK e he
        exact ⟨b', h1, by omega, h3⟩
      · rw [List.mem_singleton.1 he]
        exact ⟨b, rfl, Nat.le_refl _, hbB⟩
  · exact inv.below.grown hg (by omega) (fun k hk => by cases hk; exact Nat.le_refl _)
  · show W.heap.size < ((wr.alloc (.cells #[] 54)).heap.setIfInBounds _ _).size
    simp; omega

/-- Behind the append: the loop's facts once more. -/
theorem app_step {W w2 w3 : World} {n : Nat} {done : List Int} {v v' : Value} {p : Int} (inv : PathInv W w2 n done v) (hlt : W.heap.size < w2.heap.size)
    (hown : w3.ownsRow (W.heap.size + 1) 3 1 v' (done.length + 1) (done.map (Value.int .i64) ++ [.int .i64 p])) (hg : (w2.alloc (.cells #[.int .i64 p] 3)).grownBy w3 v.ownBlock) :
    PathInv W w3 n (done ++ [p]) v' ∧ W.heap.size < w3.heap.size := by
  have hk : ∀ k, v.ownBlock = some k → W.heap.size + 1 ≤ k := fun k hk => (inv.own.lt k hk).1
  refine ⟨⟨by simpa using hown, ?_, ?_⟩, ?_⟩
  · obtain ⟨es, c, hm, hK⟩ := inv.map
    refine ⟨es, c, ?_, hK⟩
    rw [hg.block _ (by rw [World.size_alloc]; omega) (fun e => by have := hk _ e.symm; omega), Below.heap_alloc _ _ _ hlt]; exact hm
  · exact (inv.below.alloc (by omega) _).grown hg (by rw [World.size_alloc]; omega) (fun k h => by have := hk k h; omega)
  · have := hg.size; rw [World.size_alloc] at this; omega

theorem PathInv.keep {W w w' : World} {n : Nat} {done : List Int} {v : Value} (inv : PathInv W w n done v) (hlt : W.heap.size < w.heap.size) (hb : Below w.heap.size w w') : PathInv W w' n done v := by
  refine ⟨?_, ?_, inv.below.trans (hb.mono (by omega))⟩
  · refine inv.own.kept (row := none) ⟨hb.os, hb.tape, hb.output, hb.size, fun k hk _ => hb.block k hk⟩ ?_
    cases hv : v.ownBlock with
    | none => exact .inl rfl
    | some k => exact .inr (by simp)
  · obtain ⟨es, c, hm, hK⟩ := inv.map
    exact ⟨es, c, by rw [hb.block _ hlt]; exact hm, hK⟩

theorem PathInv.lt {W w : World} {n : Nat} {done : List Int} {v : Value} (inv : PathInv W w n done v) : W.heap.size < w.heap.size := by
  obtain ⟨es, c, hm, hK⟩ := inv.map
  exact (Array.getElem?_eq_some_iff.1 hm).1
theorem ownsRow_base {w : World} {b b' : Nat} {e : TypeId} {size : Nat} {v : Value} {n : Nat} {xs : List Value} (h : w.ownsRow b e size v n xs) (hb : b' ≤ b) : w.ownsRow b' e size v n xs := by
  refine ⟨h.1, ?_⟩
  rcases h.2 with hn | ⟨g, cap, cur, rfl, hg, rest⟩
  · exact .inl hn
  · exact .inr ⟨g, cap, cur, rfl, by omega, rest⟩

theorem info3 : (Tryd.prog.info? 3).map (fun i => (i.zero, i.size, i.bytes)) = some (some (.int .i64 0), 1, 8) := by kernel_rfl

def PathPost (W : World) (ps : List Int) (e : Ending) (w' : World) : Prop := ∃ u, e = .returned u ∧ w'.ownsRow W.heap.size 3 1 u ps.length (ps.map (Value.int .i64)) ∧ Below W.heap.size W w'
def PathRel (W : World) (a : Addr) (ps : List Int) (e v r : Value) (wr : World) : Prop :=
  ∃ n' done rest k, done ++ rest = ps ∧ ((Chain W (.iface 71 (.pointer (some a))) n' rest e ∧ n' ≤ W.heap.size ∧ rest.length + 1000 ≤ k) ∨ (e = .nilIface ∧ rest = [])) ∧ r = .int .i64 (k : Nat) ∧ k ≤ 1048576 ∧ PathInv W wr n' done v
def deep1 : Value → Nat
  | .nilIface => 0
  | e => deep e + 1

set_option maxRecDepth 100000 in
set_option maxHeartbeats 4000000 in
theorem Path_any (a : Addr) (n : Nat) (ps : List Int) (v : Value) (W : World) (hc : Chain W (.iface 71 (.pointer (some a))) n ps v) (hn : n ≤ W.heap.size) (hl : ps.length ≤ 200) :
    Calls Tryd.prog 13 #[v] W (PathPost W ps) := by
  have HC : Hid (Chain W (.iface 71 (.pointer (some a))) n ps v) := hc
  have hsh := hc.shape ⟨_, _, rfl⟩
  obtain ⟨T, x, rfl⟩ := hsh
  clear hc
  obtain ⟨i0, hi, hz0, hz1, hz2⟩ := info_parts info3
  have hmm := @run_makeMap Tryd.prog
  go_enter Tryd.func13, Tryd.ntmps13
  go_wp2
  go_loopw [0, 3, 5] (fun e v r wr => PathRel W a ps e v r wr) (fun e _ _ _ => deep1 e)
  case atStart => exact ⟨n, [], ps, 1048576, rfl, .inl ⟨HC.out, hn, by omega⟩, rfl, by omega, ⟨World.ownsRow_nil _ _ _ _, ⟨#[], 0, by show (W.heap.push _)[W.heap.size]? = _; simp, fun e he => by simp at he⟩, (Below.refl _ _).alloc (Nat.le_refl _) _⟩⟩
  case round =>
    obtain ⟨n', done, rest, k, hps, hrel, rfl, hkm, hI⟩ := hrel
    have HI : Hid _ := hI
    have Hps : Hid _ := hps
    clear hI HC hps
    rcases hrel with ⟨hrel, hn', hk⟩ | ⟨rfl, rfl⟩
    · cases hrel with
      | base =>
        have hk1 : 1000 ≤ k := by simpa using hk
        go_wp2_with (first
          | (go_at_call 27; refine (own_str _ _).mono ?_; rintro e w1 ⟨rfl, rfl⟩)
          | (go_at_call 28; refine (inner_str _ _).mono ?_; rintro e w2 ⟨rfl, hb2⟩; have Hb2 : Hid (Below wr.heap.size wr w2) := hb2; clear hb2))
        go_roundw
        case rel => exact ⟨n', done, [], k - 1, Hps.out, .inr ⟨rfl, rfl⟩, by go_num, by omega, HI.out.keep HI.out.lt Hb2.out⟩
        case measure => exact Nat.zero_lt_succ _
      | @woe _ b p rest' e' T' hlt h0 h1 hz r =>
        obtain ⟨T', x', rfl⟩ := r.shape ⟨_, _, rfl⟩
        have hr : Hid _ := r
        have lbW : b < W.heap.size := by omega
        have hbB : Blk wr ⟨b, 0, none⟩ := Blk.keep ⟨_, _, hz⟩ HI.out.below
        obtain ⟨es, c, hm, hK⟩ := HI.out.map
        have hlk := lookup_fresh b W.heap.size es c wr hm hbB ((hK.mono (by omega : b + 1 ≤ n')).keep HI.out.below)
        have h0w : wr.cell? ⟨b, 0, none⟩ = some (.int .i64 p) := by rw [HI.out.below.cell (p := ⟨b, 0, none⟩) lbW]; exact h0
        have h1w : Hid (wr.cell? ⟨b, 1, none⟩ = some (.iface T' x')) := by show _ = _; rw [HI.out.below.cell (p := ⟨b, 1, none⟩) lbW]; exact h1
        have HBW : Hid (Blk W ⟨b, 0, none⟩) := ⟨_, _, hz⟩
        obtain ⟨wr2, hup, hI2, hlt2⟩ := upd_step HI.out hlt HBW.out
        have h0w2 : wr2.cell? ⟨b, 0, none⟩ = some (.int .i64 p) := by rw [hI2.below.cell (p := ⟨b, 0, none⟩) lbW]; exact h0
        have HI2 : Hid _ := hI2
        have H1 : Hid (W.cell? ⟨b, 1, none⟩ = some (.iface T' x')) := h1
        clear r h0 h1 hz hm hbB hI2 h1w h0w
        have hk1 : 1000 ≤ k := by omega
        have hlen : done.length ≤ 200 := by have := congrArg List.length Hps.out; simp at this; omega
        have hown2 := HI2.out.own.alloc (.cells #[.int .i64 p] 3)
        go_wp2_with (first
          | (go_at_call 27; refine (own_woe _ _).mono ?_; rintro e w1 ⟨rfl, rfl⟩)
          | (at_builtin; refine wpList_append_own _ rfl _ _ 22 rfl (W.heap.size + 1) 3 i0 (.int .i64 0) 1 8 Tryd.underlying22 hi hz0 hz1 hz2 rfl (by decide) _ _ _ rfl hown2 ⟨wr2.heap.size, 0, none⟩ 1 1 [.int .i64 p] rfl rfl ?c1 ?c2 ?c3 ?c4 ?c5 ?_))
        case c1 =>
          intro j u hj
          match j, hj with
          | 0, hj => simp at hj; subst hj; simp [Addr.add]
        case c2 => intro u hu; simp at hu; subst hu; rfl
        case c3 => unfold maxLen; omega
        case c4 => omega
        case c5 => rw [World.size_alloc]; omega
        intro v' w3 hown' hgrow _
        have HA : Hid (PathInv W w3 b (done ++ [p]) v' ∧ W.heap.size < w3.heap.size) := app_step HI2.out hlt2 hown' hgrow
        have h1w : Hid (w3.cell? ⟨b, 1, none⟩ = some (.iface T' x')) := by show _ = _; rw [HA.out.1.below.cell (p := ⟨b, 1, none⟩) lbW]; exact H1.out
        clear hown' hgrow hown2 hup h0w2 hlk
        go_wp2_with (go_at_call 28; refine (inner_woe _ _ _ (.iface _ _) h1w.out).mono ?_; rintro e w4 ⟨rfl, hb4⟩; have Hb4 : Hid (Below w3.heap.size w3 w4) := hb4; clear hb4)
        go_roundw
        case rel => exact ⟨b, done ++ [p], rest', k - 1, by rw [← Hps.out]; simp, .inl ⟨hr.out, by omega, by simp at hk; omega⟩, by go_num, by omega, HA.out.1.keep HA.out.2 Hb4.out⟩
        case measure => exact Nat.succ_lt_succ (Nat.lt_succ_of_le (hr.out.deep_le rfl))
    · go_wp2
      go_ret
      have e1 : done = ps := by have := Hps.out; simpa using this
      exact ⟨_, rfl, by have := ownsRow_base HI.out.own (Nat.le_succ _); rwa [e1] at this, HI.out.below⟩
end Go.Proofs.YtdojgjainfelcaaDoor
