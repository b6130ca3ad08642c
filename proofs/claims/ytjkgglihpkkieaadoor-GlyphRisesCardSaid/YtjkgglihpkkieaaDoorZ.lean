/- The walk of GlyphRises. -/
import Derived.Test.YtjkgglihpkkieaaDoorY
import Derived.Laws.OwnMore
import Derived.Laws.AppendOwn
import Derived.Deep.AppendLies
import Derived.OwnWalk
import Derived.Deep.RegionWith
namespace Go.Proofs.YtjkgglihpkkieaaDoor
open Go.RowKit Go.Extern.Stop Go.Stop Go.Extern Go.Sort

/-- The slice v reads as the list xs. -/
def Row (w : World) (v : Value) (xs : List Int) : Prop :=
  ((∃ ao cap, v = .slice ao 0 cap) ∧ xs = []) ∨ ∃ b off cap, v = .slice (some ⟨b, off, none⟩) xs.length cap ∧ b < w.heap.size ∧ xs.length ≤ cap ∧ ∀ i (h : i < xs.length), w.cell? ⟨b, off + i, none⟩ = some (.int .i64 xs[i])
theorem Row.keep {w w' : World} {v : Value} {xs : List Int} (h : Row w v xs) (hb : Below w.heap.size w w') : Row w' v xs := by
  rcases h with h | ⟨b, off, cap, h1, h2, h3, h4⟩
  · exact .inl h
  · exact .inr ⟨b, off, cap, h1, Nat.lt_of_lt_of_le h2 hb.size, h3, fun i hi => by rw [hb.cell (p := ⟨b, off + i, none⟩) h2]; exact h4 i hi⟩
theorem Row.slice {W : World} {v : Value} {xs : List Int} (h : Row W v xs) : ∃ ao c, v = .slice ao xs.length c := by
  rcases h with ⟨⟨_, _, rfl⟩, rfl⟩ | ⟨b, off, cap, rfl, _⟩
  · exact ⟨_, _, rfl⟩
  · exact ⟨_, _, rfl⟩
/-- A word's five cells. -/
def wc (d : Wd) : List Value := [.int .i64 d.slot, .int .i64 d.gen, .int .i64 d.tag, .int .i64 d.num, .bool d.mark]
/-- The cells of a row of words. -/
def flat (f : Nat → Wd) : Nat → List Value
  | 0 => []
  | n + 1 => flat f n ++ wc (f n)
theorem flat_len (f : Nat → Wd) (n : Nat) : (flat f n).length = n * 5 := by
  induction n with
  | zero => rfl
  | succ n ih => rw [flat, List.length_append, ih]; show n * 5 + 5 = _; omega
theorem flat_at (f : Nat → Wd) (n j c : Nat) (hj : j < n) (hc : c < 5) : (flat f n)[j * 5 + c]? = (wc (f j))[c]? := by
  induction n with
  | zero => omega
  | succ n ih =>
    rw [flat]
    by_cases h : j < n
    · rw [List.getElem?_append_left (by rw [flat_len]; omega)]; exact ih h
    · obtain rfl : j = n := by omega
      rw [List.getElem?_append_right (by rw [flat_len]; omega), flat_len]
      congr 1; omega
theorem flat_congr (f g : Nat → Wd) (n : Nat) (h : ∀ j, j < n → f j = g j) : flat f n = flat g n := by
  induction n with
  | zero => rfl
  | succ n ih => rw [flat, flat, ih (fun j hj => h j (by omega)), h n (by omega)]

def RiRel (w1 : World) (T len : Nat) (vl vi : Value) (wr : World) : Prop :=
  ∃ (i : Nat) (f : Nat → Wd), i ≤ len ∧ vi = .int .i64 i ∧ wr.ownsRow w1.heap.size 23 5 vl (i + 1) (flat f (i + 1)) ∧ (∀ j, j ≤ i → (f j).tag = (T + j : Nat)) ∧ Below w1.heap.size w1 wr

set_option maxRecDepth 100000 in
set_option maxHeartbeats 1000000 in
theorem rises_out (a b : Addr) (s g t n : Int) (m : Bool) (v : Value) (xs : List Int) (w : World) (L : Env w a b) (hv : Row w v xs) (ho : 60 < xs.length ∨ t < 0 ∨ 1099511627776 < t) :
    Calls Tryd.prog 7 #[.agg #[.int .i64 s, .int .i64 g, .int .i64 t, .int .i64 n, .bool m], v] w (True1 w) := by
  have HL := Lib.hid L
  have AW := Lib.hid (awake_true a b)
  obtain ⟨ao, cp, rfl⟩ := hv.slice
  clear L hv
  have ho' : (60 : Int) < xs.length ∨ ((xs.length : Int) ≤ 60 ∧ t < 0) ∨ ((xs.length : Int) ≤ 60 ∧ ¬ t < 0 ∧ 1099511627776 < t) := by omega
  clear ho
  rcases ho' with h1 | ⟨h1, h2⟩ | ⟨h1, h2, h3⟩
  all_goals
    go_enter Tryd.func7, Tryd.ntmps7
    go_wp2_with fail
    refine (AW.out _ (HL.out.keep (below_alloc (Below.refl _ _) _))).mono ?_
    rintro e w1 ⟨rfl, hb⟩
    have HA := Lib.hid ((BlkW.new w 23 #[.int .i64 s, .int .i64 g, .int .i64 t, .int .i64 n, .bool m]).below hb)
    have HB1 := Lib.hid (below_trans (below_alloc (Below.refl _ _) _) hb)
    clear hb
    obtain ⟨a0, a1, a2, a3, a4⟩ := cell5 HA.out
    go_wp2
    go_ret
    exact ⟨rfl, HB1.out⟩

theorem flat5 {w : World} {B g n cap : Nat} {f : Nat → Wd} (h : w.ownsRow B 23 5 (.slice (some ⟨g, 0, none⟩) n cap) n (flat f n)) (j : Nat) (hj : j < n) :
    w.cell? ⟨g, j * 5, none⟩ = some (.int .i64 (f j).slot) ∧ w.cell? ⟨g, j * 5 + 1, none⟩ = some (.int .i64 (f j).gen) ∧ w.cell? ⟨g, j * 5 + 2, none⟩ = some (.int .i64 (f j).tag) ∧ w.cell? ⟨g, j * 5 + 3, none⟩ = some (.int .i64 (f j).num) ∧ w.cell? ⟨g, j * 5 + 4, none⟩ = some (.bool (f j).mark) := by
  have key : ∀ c, c < 5 → w.cell? ⟨g, j * 5 + c, none⟩ = (wc (f j))[c]? := fun c hc => by
    rw [h.cellAt (j * 5 + c) (by omega)]
    exact flat_at f n j c hj hc
  exact ⟨key 0 (by omega), key 1 (by omega), key 2 (by omega), key 3 (by omega), key 4 (by omega)⟩
theorem one_row (w : World) (d : Wd) : (w.alloc (.cells #[.int .i64 d.slot, .int .i64 d.gen, .int .i64 d.tag, .int .i64 d.num, .bool d.mark] 23)).ownsRow w.heap.size 23 5 (.slice (some ⟨w.heap.size, 0, none⟩) 1 1) 1 (flat (fun _ => d) 1) :=
  ⟨rfl, .inr ⟨w.heap.size, 1, _, rfl, Nat.le_refl _, heap_alloc_new w _, Nat.le_refl _, by simp [maxLen], rfl, rfl⟩⟩

theorem To_tag (s g t n : Int) (m : Bool) (s' g' t' n' : Int) (m' : Bool) (u : Int) (hu : wrap64 (t + 1) = u) (w : World) :
    Calls Tryd.prog 15 #[.agg #[.int .i64 s, .int .i64 g, .int .i64 t, .int .i64 n, .bool m], .agg #[.int .i64 s', .int .i64 g', .int .i64 t', .int .i64 n', .bool m']] w fun e w' => e = .returned (.agg #[.int .i64 s', .int .i64 g', .int .i64 u, .int .i64 0, .bool false]) ∧ Below w.heap.size w w' := by
  subst hu; exact To_any s g t n m s' g' t' n' m' w
theorem Marked_tag (s g t n : Int) (m : Bool) (u : Int) (hu : wrap64 (t + 1) = u) (w : World) :
    Calls Tryd.prog 16 #[.agg #[.int .i64 s, .int .i64 g, .int .i64 t, .int .i64 n, .bool m]] w fun e w' => e = .returned (.agg #[.int .i64 s, .int .i64 g, .int .i64 u, .int .i64 n, .bool true]) ∧ Below w.heap.size w w' := by
  subst hu; exact Marked_any s g t n m w
theorem Count_tag (s g t n : Int) (m : Bool) (k : Int) (u : Int) (hu : wrap64 (t + 1) = u) (w : World) :
    Calls Tryd.prog 17 #[.agg #[.int .i64 s, .int .i64 g, .int .i64 t, .int .i64 n, .bool m], .int .i64 k] w fun e w' => e = .returned (.agg #[.int .i64 0, .int .i64 0, .int .i64 u, .int .i64 (wrap64 (n + k)), .bool false]) ∧ Below w.heap.size w w' := by
  subst hu; exact Count_any s g t n m k w
theorem own_far {w : World} {B gl n cap : Nat} {xs : List Value} (h : w.ownsRow B 23 5 (.slice (some ⟨gl, 0, none⟩) n cap) n xs) {b o : Nat} (hne : gl ≠ b) (u : Value) : (w.setCell ⟨b, o, none⟩ u).ownsRow B 23 5 (.slice (some ⟨gl, 0, none⟩) n cap) n xs := by
  refine h.kept (row := some b) ⟨rfl, rfl, rfl, by simp, fun k _ hk2 => Below.heap_setCell w ⟨b, o, none⟩ u k (fun e => hk2 (by rw [e]))⟩ (.inr ?_)
  simpa [Value.ownBlock] using hne
theorem own_below {w w' : World} {B n : Nat} {v : Value} {xs : List Value} (h : w.ownsRow B 23 5 v n xs) (hb : Below w.heap.size w w') : w'.ownsRow B 23 5 v n xs :=
  h.kept (row := none) ⟨hb.os, hb.tape, hb.output, hb.size, fun j hj _ => hb.block j hj⟩ (by cases hv : v.ownBlock <;> simp)
def set5 (w : World) (g : Nat) (v0 v1 v2 v3 v4 : Value) : World := ((((w.setCell ⟨g, 0, none⟩ v0).setCell ⟨g, 1, none⟩ v1).setCell ⟨g, 2, none⟩ v2).setCell ⟨g, 3, none⟩ v3).setCell ⟨g, 4, none⟩ v4
theorem blk_set5 {w : World} {g : Nat} {o0 o1 o2 o3 o4 : Value} (h : BlkW w g 23 #[o0, o1, o2, o3, o4]) (v0 v1 v2 v3 v4 : Value) : BlkW (set5 w g v0 v1 v2 v3 v4) g 23 #[v0, v1, v2, v3, v4] :=
  ((((h.set 0 v0).set 1 v1).set 2 v2).set 3 v3).set 4 v4
theorem own_set5 {w : World} {B gl n cap g : Nat} {xs : List Value} (h : w.ownsRow B 23 5 (.slice (some ⟨gl, 0, none⟩) n cap) n xs) (hne : gl ≠ g) (v0 v1 v2 v3 v4 : Value) : (set5 w g v0 v1 v2 v3 v4).ownsRow B 23 5 (.slice (some ⟨gl, 0, none⟩) n cap) n xs :=
  own_far (own_far (own_far (own_far (own_far h hne _) hne _) hne _) hne _) hne _
theorem below_set5 {B : Nat} {a w : World} {g : Nat} (h : Below B a w) (hg : B ≤ g) (v0 v1 v2 v3 v4 : Value) : Below B a (set5 w g v0 v1 v2 v3 v4) :=
  ((((h.setCell (p := ⟨g, 0, none⟩) hg _).setCell (p := ⟨g, 1, none⟩) hg _).setCell (p := ⟨g, 2, none⟩) hg _).setCell (p := ⟨g, 3, none⟩) hg _).setCell (p := ⟨g, 4, none⟩) hg _
theorem Same_ne {w : World} (t t' : Int) (h : t ≠ t') (s g n : Int) (m : Bool) (s' g' n' : Int) (m' : Bool) (d : Nat) (os : Array Obj) :
    Calls Tryd.prog 18 #[.agg #[.int .i64 s, .int .i64 g, .int .i64 t, .int .i64 n, .bool m], .agg #[.int .i64 s', .int .i64 g', .int .i64 t', .int .i64 n', .bool m']] (grow (redrawn w d) os) fun e w'' => e = .returned (.bool false) ∧ ∃ p : Regrown, w'' = grow (redrawn w p.d) p.os :=
  Same_re s g t n m s' g' t' n' m' false (sameB_tag h) d os
theorem info23 : (Tryd.prog.info? 23).map (fun i => (i.zero, i.size, i.bytes)) = some (some (.agg #[.int .i64 0, .int .i64 0, .int .i64 0, .int .i64 0, .bool false]), 5, 40) := by kernel_rfl
theorem news_at (w : World) (d : Wd) : ∀ j u, (wc d)[j]? = some u → (w.alloc (.cells #[.int .i64 d.slot, .int .i64 d.gen, .int .i64 d.tag, .int .i64 d.num, .bool d.mark] 23)).cell? ((⟨w.heap.size, 0, none⟩ : Addr).add j) = some u := by
  intro j u h
  have e : (⟨w.heap.size, 0, none⟩ : Addr).add j = ⟨w.heap.size, j, none⟩ := by cases j <;> simp [Addr.add]
  rw [e, (BlkW.new w 23 _).cell j]
  simpa [wc] using h
theorem rise_row {w : World} {B i : Nat} {v : Value} {f : Nat → Wd} {e : Wd} (h : w.ownsRow B 23 5 v (i + 1 + 1) (flat f (i + 1) ++ wc e)) : w.ownsRow B 23 5 v (i + 1 + 1) (flat (fun j => if j = i + 1 then e else f j) (i + 1 + 1)) := by
  rw [flat, flat_congr (fun j => if j = i + 1 then e else f j) f (i + 1) (fun j hj => by rw [if_neg (by omega)]), if_pos rfl]
  exact h
def RkRel (wZ : World) (i : Nat) (vk : Value) (wq : World) : Prop := ∃ k : Nat, k ≤ i + 1 ∧ vk = .int .i64 k ∧ Below wZ.heap.size wZ wq

set_option maxRecDepth 100000 in
set_option maxHeartbeats 4000000 in
theorem rises_in (a b : Addr) (s g n : Int) (T : Nat) (m : Bool) (bx off cp : Nat) (xs : List Int) (w : World) (L : Env w a b) (hbx : bx < w.heap.size) (hcx : ∀ i (h : i < xs.length), w.cell? ⟨bx, off + i, none⟩ = some (.int .i64 xs[i])) (hl : xs.length ≤ 60) (hT : T ≤ 1099511627776) :
    Calls Tryd.prog 7 #[.agg #[.int .i64 s, .int .i64 g, .int .i64 T, .int .i64 n, .bool m], .slice (some ⟨bx, off, none⟩) xs.length cp] w (True1 w) := by
  have HL := Lib.hid L
  have AW := Lib.hid (awake_true a b)
  have HX := Lib.hid hcx
  clear L hcx
  have h1 : (xs.length : Int) ≤ 60 := by omega
  have h2 : ¬ (T : Int) < 0 := by omega
  have h3 : (T : Int) ≤ 1099511627776 := by omega
  have k1 : decide ((60 : Int) < xs.length) = false := by simpa using h1
  have k2 : decide ((T : Int) < 0) = false := by simp
  have k3 : decide ((1099511627776 : Int) < T) = false := by simpa using h3
  go_enter Tryd.func7, Tryd.ntmps7
  go_wp2_with fail
  refine (AW.out _ (HL.out.keep (below_alloc (Below.refl _ _) _))).mono ?_
  rintro e w1 ⟨rfl, hb⟩
  have HA := Lib.hid ((BlkW.new w 23 #[.int .i64 s, .int .i64 g, .int .i64 T, .int .i64 n, .bool m]).below hb)
  have HB1 := Lib.hid (below_trans (below_alloc (Below.refl _ _) _) hb)
  clear hb
  obtain ⟨a0, a1, a2, a3, a4⟩ := cell5 HA.out
  go_wp2
  clear a0 a1 a2 a3 a4
  go_loopw [5, 6] (RiRel w1 T xs.length) (fun _ i _ => xs.length - (intOf i).toNat)
  case atStart =>
    refine ⟨0, fun _ => ⟨s, g, T, n, m⟩, by omega, rfl, one_row w1 ⟨s, g, T, n, m⟩, ?_, below_alloc (Below.refl _ _) _⟩
    intro j hj
    obtain rfl : j = 0 := by omega
    rfl
  case round =>
    obtain ⟨i, f, hi, rfl, hown, htag, hbel⟩ := hrel
    obtain ⟨wo, rfl⟩ : ∃ wo : World, wo = wr := ⟨_, rfl⟩
    have HB := Lib.hid hbel
    have HA2 := Lib.hid (HA.out.below hbel)
    have hz1 : w.heap.size < wo.heap.size := Nat.lt_of_lt_of_le HA.out.lt hbel.size
    clear hbel
    by_cases hlt : i < xs.length
    · obtain ⟨gl, cap, rfl, hgl, hglt⟩ := hown.form (by omega)
      obtain ⟨l0, l1, l2, l3, l4⟩ := flat5 hown i (by omega)
      have HO := Lib.hid hown
      have HT := Lib.hid htag
      obtain ⟨d, hd⟩ : ∃ d, d = f i := ⟨_, rfl⟩
      have hdt := htag i (Nat.le_refl _)
      rw [← hd] at l0 l1 l2 l3 l4 hdt
      rw [hdt] at l2
      clear hown htag hd hdt
      have cx : wo.cell? ⟨bx, off + i, none⟩ = some (.int .i64 xs[i]) := by
        rw [HB.out.cell (p := ⟨bx, off + i, none⟩) (Nat.lt_of_lt_of_le hbx HB1.out.size), HB1.out.cell (p := ⟨bx, off + i, none⟩) hbx]
        exact HX.out i hlt
      have hbx2 : bx < wo.heap.size := lt_of_cell cx
      obtain ⟨x, hx⟩ : ∃ x, x = xs[i] := ⟨_, rfl⟩
      rw [← hx] at cx
      clear hx
      have hww : Hid (wrap64 ((T : Int) + i + 1) = (T : Int) + i + 1) := IntWalk.wrap64_in _ ⟨by omega, by omega⟩
      obtain ⟨b0, b1, b2, b3, b4⟩ := cell5 HA2.out
      have hxne : gl ≠ wo.heap.size := by omega
      by_cases p0 : (IntKind.u64.wrap x).tmod 3 = 0
      · have t0 : ((IntKind.u64.wrap x).tmod 3 == 0) = true := by simpa using p0
        clear p0
        go_wp2_with fail
        refine (To_tag _ _ _ _ _ _ _ _ _ _ _ hww.out _).mono ?_
        rintro e w3 ⟨rfl, hb⟩
        have HBX := Lib.hid ((BlkW.new wo 23 #[.int .i64 d.slot, .int .i64 d.gen, .int .i64 ((T : Int) + i), .int .i64 d.num, .bool d.mark]).below hb)
        have HRW := Lib.hid (own_below (HO.out.alloc (.cells #[.int .i64 d.slot, .int .i64 d.gen, .int .i64 ((T : Int) + i), .int .i64 d.num, .bool d.mark] 23)) hb)
        have HB3 := Lib.hid (below_trans (below_alloc (Below.refl wo.heap.size wo) (.cells #[.int .i64 d.slot, .int .i64 d.gen, .int .i64 ((T : Int) + i), .int .i64 d.num, .bool d.mark] 23)) hb)
        have HA3 := Lib.hid (HA2.out.below HB3.out)
        clear hb b0 b1 b2 b3 b4 l0 l1 l2 l3 l4 cx
        obtain ⟨b0, b1, b2, b3, b4⟩ := cell5 HA3.out
        have hz3 := HA3.out.lt
        obtain ⟨x0, x1, x2, x3, x4⟩ := cell5 HBX.out
        have y0 := HBX.out.frozen 0
        have y1 := HBX.out.frozen 1
        have y2 := HBX.out.frozen 2
        have y3 := HBX.out.frozen 3
        have y4 := HBX.out.frozen 4
        go_wp2
        have hx5 := blk_set5 HBX.out (.int .i64 s) (.int .i64 g) (.int .i64 ((T : Int) + i + 1)) (.int .i64 0) (.bool false)
        have hr5 := own_set5 HRW.out hxne (.int .i64 s) (.int .i64 g) (.int .i64 ((T : Int) + i + 1)) (.int .i64 0) (.bool false)
        have hb5 := below_set5 (below_trans HB.out HB3.out) HB.out.size (.int .i64 s) (.int .i64 g) (.int .i64 ((T : Int) + i + 1)) (.int .i64 0) (.bool false)
        unfold set5 at hx5 hr5 hb5
        clear HBX HRW HB3 HA3 x0 x1 x2 x3 x4 y0 y1 y2 y3 y4 b0 b1 b2 b3 b4 HO HB HA2 hz1 hz3 hww
        generalize ((((w3.setCell ⟨wo.heap.size, 0, none⟩ (.int .i64 s)).setCell ⟨wo.heap.size, 1, none⟩ (.int .i64 g)).setCell ⟨wo.heap.size, 2, none⟩ (.int .i64 ((T : Int) + i + 1))).setCell ⟨wo.heap.size, 3, none⟩ (.int .i64 0)).setCell ⟨wo.heap.size, 4, none⟩ (.bool false) = wZ at hx5 hr5 hb5 ⊢
        have HX5 := Lib.hid hx5
        have HR5 := Lib.hid hr5
        have HB5 := Lib.hid hb5
        clear hx5 hr5 hb5
        go_loopw [8] (RkRel wZ i) (fun k _ => (i + 1) - (intOf k).toNat)
        case atStart => exact ⟨0, by omega, rfl, Below.refl _ _⟩
        case round =>
          obtain ⟨k, hk, rfl, hq⟩ := hrel
          have HXq := Lib.hid (HX5.out.below hq)
          have HRq := Lib.hid (own_below HR5.out hq)
          have HQ := Lib.hid hq
          clear hq
          by_cases hk2 : k < i + 1
          · obtain ⟨q0, q1, q2, q3, q4⟩ := flat5 HRq.out k hk2
            have ht := HT.out k (by omega)
            obtain ⟨e, he⟩ : ∃ e, e = f k := ⟨_, rfl⟩
            rw [← he] at q0 q1 q2 q3 q4 ht
            rw [ht] at q2
            clear he ht
            have rq0 := cell_regrown q0
            have rq1 := cell_regrown q1
            have rq2 := cell_regrown q2
            have rq3 := cell_regrown q3
            have rq4 := cell_regrown q4
            obtain ⟨rx0, rx1, rx2, rx3, rx4⟩ := re5 HXq.out
            have cS := Lib.hid (Same_ne (w := wr) ((T : Int) + i + 1) ((T + k : Nat) : Int) (by omega))
            simp only [Int.natCast_add] at cS rq2
            clear q0 q1 q2 q3 q4
            go_wp2
            refine wp_region_quiet_below (by kernel_rfl) (by kernel_rfl) ?_
            repeat (go_big_quiet_step ((with_reducible exact cS.out _ _ _ _ _ _ _ _ _ _)))
            refine wpQuiet_nil ?_
            intro _ hw'
            obtain ⟨⟨dq, osq⟩, hw''⟩ := hw'
            subst hw''
            clear rq0 rq1 rq2 rq3 rq4 rx0 rx1 rx2 rx3 rx4
            go_wp2
            refine ⟨⟨k + 1, by omega, by go_num, below_trans HQ.out (below_regrown wr dq osq)⟩, by simp [intOf]; omega⟩
          · obtain rfl : k = i + 1 := by omega
            obtain ⟨x0, x1, x2, x3, x4⟩ := cell5 HXq.out
            obtain ⟨i0, hi0, hz0, hz1, hz2⟩ := info_parts info23
            go_wp2_with (at_builtin; refine wpList_append_own _ rfl _ _ 45 rfl w1.heap.size 23 i0 (.agg #[.int .i64 0, .int .i64 0, .int .i64 0, .int .i64 0, .bool false]) 5 40 Tryd.underlying45 hi0 hz0 hz1 hz2 rfl (by decide) _ _ _ rfl (HRq.out.alloc _) ⟨wr.heap.size, 0, none⟩ 1 1 (wc ⟨s, g, (T : Int) + i + 1, 0, false⟩) rfl rfl ?c1 ?c2 ?c3 ?c4 ?c5 ?_)
            case c1 => exact news_at wr ⟨s, g, (T : Int) + i + 1, 0, false⟩
            case c2 => intro u hu; simp [wc] at hu; rcases hu with rfl | rfl | rfl | rfl | rfl <;> rfl
            case c3 => simp [maxLen]; omega
            case c4 => omega
            case c5 => rw [World.size_alloc]; have := HB5.out.size; have := HQ.out.size; omega
            intro v' w4 hown' hgrow _
            have hb6 := (below_alloc (below_trans HB5.out HQ.out) _).grown hgrow (below_alloc (below_trans HB5.out HQ.out) _).size (fun k hk => by simp [Value.ownBlock] at hk; omega)
            clear hgrow x0 x1 x2 x3 x4
            have HO6 := Lib.hid hown'
            have HB6 := Lib.hid hb6
            clear hown' hb6
            go_wp2
            refine ⟨⟨i + 1, fun j => if j = i + 1 then ⟨s, g, (T : Int) + i + 1, 0, false⟩ else f j, by omega, by go_num, rise_row HO6.out, fun j hj => ?_, HB6.out⟩, by simp [intOf]; omega⟩
            dsimp only
            by_cases e : j = i + 1
            · rw [if_pos e, e]; show (T : Int) + i + 1 = _; omega
            · rw [if_neg e]; exact HT.out j (by omega)
      · have t0 : ((IntKind.u64.wrap x).tmod 3 == 0) = false := by simpa using p0
        clear p0
        by_cases p1 : (IntKind.u64.wrap x).tmod 3 = 1
        · have t1 : ((IntKind.u64.wrap x).tmod 3 == 1) = true := by simpa using p1
          clear p1
          go_wp2_with fail
          refine (Marked_tag _ _ _ _ _ _ hww.out _).mono ?_
          rintro e w3 ⟨rfl, hb⟩
          have HBX := Lib.hid ((BlkW.new wo 23 #[.int .i64 d.slot, .int .i64 d.gen, .int .i64 ((T : Int) + i), .int .i64 d.num, .bool d.mark]).below hb)
          have HRW := Lib.hid (own_below (HO.out.alloc (.cells #[.int .i64 d.slot, .int .i64 d.gen, .int .i64 ((T : Int) + i), .int .i64 d.num, .bool d.mark] 23)) hb)
          have HB3 := Lib.hid (below_trans (below_alloc (Below.refl wo.heap.size wo) (.cells #[.int .i64 d.slot, .int .i64 d.gen, .int .i64 ((T : Int) + i), .int .i64 d.num, .bool d.mark] 23)) hb)
          have HA3 := Lib.hid (HA2.out.below HB3.out)
          clear hb b0 b1 b2 b3 b4 l0 l1 l2 l3 l4 cx
          obtain ⟨b0, b1, b2, b3, b4⟩ := cell5 HA3.out
          have hz3 := HA3.out.lt
          obtain ⟨x0, x1, x2, x3, x4⟩ := cell5 HBX.out
          have y0 := HBX.out.frozen 0
          have y1 := HBX.out.frozen 1
          have y2 := HBX.out.frozen 2
          have y3 := HBX.out.frozen 3
          have y4 := HBX.out.frozen 4
          go_wp2
          have hx5 := blk_set5 HBX.out (.int .i64 d.slot) (.int .i64 d.gen) (.int .i64 ((T : Int) + i + 1)) (.int .i64 d.num) (.bool true)
          have hr5 := own_set5 HRW.out hxne (.int .i64 d.slot) (.int .i64 d.gen) (.int .i64 ((T : Int) + i + 1)) (.int .i64 d.num) (.bool true)
          have hb5 := below_set5 (below_trans HB.out HB3.out) HB.out.size (.int .i64 d.slot) (.int .i64 d.gen) (.int .i64 ((T : Int) + i + 1)) (.int .i64 d.num) (.bool true)
          unfold set5 at hx5 hr5 hb5
          clear HBX HRW HB3 HA3 x0 x1 x2 x3 x4 y0 y1 y2 y3 y4 b0 b1 b2 b3 b4 HO HB HA2 hz1 hz3 hww
          generalize ((((w3.setCell ⟨wo.heap.size, 0, none⟩ (.int .i64 d.slot)).setCell ⟨wo.heap.size, 1, none⟩ (.int .i64 d.gen)).setCell ⟨wo.heap.size, 2, none⟩ (.int .i64 ((T : Int) + i + 1))).setCell ⟨wo.heap.size, 3, none⟩ (.int .i64 d.num)).setCell ⟨wo.heap.size, 4, none⟩ (.bool true) = wZ at hx5 hr5 hb5 ⊢
          have HX5 := Lib.hid hx5
          have HR5 := Lib.hid hr5
          have HB5 := Lib.hid hb5
          clear hx5 hr5 hb5
          go_loopw [8] (RkRel wZ i) (fun k _ => (i + 1) - (intOf k).toNat)
          case atStart => exact ⟨0, by omega, rfl, Below.refl _ _⟩
          case round =>
            obtain ⟨k, hk, rfl, hq⟩ := hrel
            have HXq := Lib.hid (HX5.out.below hq)
            have HRq := Lib.hid (own_below HR5.out hq)
            have HQ := Lib.hid hq
            clear hq
            by_cases hk2 : k < i + 1
            · obtain ⟨q0, q1, q2, q3, q4⟩ := flat5 HRq.out k hk2
              have ht := HT.out k (by omega)
              obtain ⟨e, he⟩ : ∃ e, e = f k := ⟨_, rfl⟩
              rw [← he] at q0 q1 q2 q3 q4 ht
              rw [ht] at q2
              clear he ht
              have rq0 := cell_regrown q0
              have rq1 := cell_regrown q1
              have rq2 := cell_regrown q2
              have rq3 := cell_regrown q3
              have rq4 := cell_regrown q4
              obtain ⟨rx0, rx1, rx2, rx3, rx4⟩ := re5 HXq.out
              have cS := Lib.hid (Same_ne (w := wr) ((T : Int) + i + 1) ((T + k : Nat) : Int) (by omega))
              simp only [Int.natCast_add] at cS rq2
              clear q0 q1 q2 q3 q4
              go_wp2
              refine wp_region_quiet_below (by kernel_rfl) (by kernel_rfl) ?_
              repeat (go_big_quiet_step ((with_reducible exact cS.out _ _ _ _ _ _ _ _ _ _)))
              refine wpQuiet_nil ?_
              intro _ hw'
              obtain ⟨⟨dq, osq⟩, hw''⟩ := hw'
              subst hw''
              clear rq0 rq1 rq2 rq3 rq4 rx0 rx1 rx2 rx3 rx4
              go_wp2
              refine ⟨⟨k + 1, by omega, by go_num, below_trans HQ.out (below_regrown wr dq osq)⟩, by simp [intOf]; omega⟩
            · obtain rfl : k = i + 1 := by omega
              obtain ⟨x0, x1, x2, x3, x4⟩ := cell5 HXq.out
              obtain ⟨i0, hi0, hz0, hz1, hz2⟩ := info_parts info23
              go_wp2_with (at_builtin; refine wpList_append_own _ rfl _ _ 45 rfl w1.heap.size 23 i0 (.agg #[.int .i64 0, .int .i64 0, .int .i64 0, .int .i64 0, .bool false]) 5 40 Tryd.underlying45 hi0 hz0 hz1 hz2 rfl (by decide) _ _ _ rfl (HRq.out.alloc _) ⟨wr.heap.size, 0, none⟩ 1 1 (wc ⟨d.slot, d.gen, (T : Int) + i + 1, d.num, true⟩) rfl rfl ?c1 ?c2 ?c3 ?c4 ?c5 ?_)
              case c1 => exact news_at wr ⟨d.slot, d.gen, (T : Int) + i + 1, d.num, true⟩
              case c2 => intro u hu; simp [wc] at hu; rcases hu with rfl | rfl | rfl | rfl | rfl <;> rfl
              case c3 => simp [maxLen]; omega
              case c4 => omega
              case c5 => rw [World.size_alloc]; have := HB5.out.size; have := HQ.out.size; omega
              intro v' w4 hown' hgrow _
              have hb6 := (below_alloc (below_trans HB5.out HQ.out) _).grown hgrow (below_alloc (below_trans HB5.out HQ.out) _).size (fun k hk => by simp [Value.ownBlock] at hk; omega)
              clear hgrow x0 x1 x2 x3 x4
              have HO6 := Lib.hid hown'
              have HB6 := Lib.hid hb6
              clear hown' hb6
              go_wp2
              refine ⟨⟨i + 1, fun j => if j = i + 1 then ⟨d.slot, d.gen, (T : Int) + i + 1, d.num, true⟩ else f j, by omega, by go_num, rise_row HO6.out, fun j hj => ?_, HB6.out⟩, by simp [intOf]; omega⟩
              dsimp only
              by_cases e : j = i + 1
              · rw [if_pos e, e]; show (T : Int) + i + 1 = _; omega
              · rw [if_neg e]; exact HT.out j (by omega)
        · have t1 : ((IntKind.u64.wrap x).tmod 3 == 1) = false := by simpa using p1
          clear p1
          have cC : Calls Tryd.prog 17 #[.agg #[.int .i64 d.slot, .int .i64 d.gen, .int .i64 ((T : Int) + i), .int .i64 d.num, .bool d.mark], .int .i64 x] (wo.alloc (.cells #[.int .i64 d.slot, .int .i64 d.gen, .int .i64 ((T : Int) + i), .int .i64 d.num, .bool d.mark] 23)).drew fun e w3 => e = .returned (.agg #[.int .i64 0, .int .i64 0, .int .i64 ((T : Int) + i + 1), .int .i64 (wrap64 (d.num + x)), .bool false]) ∧ Hid (BlkW w3 wo.heap.size 23 #[.int .i64 d.slot, .int .i64 d.gen, .int .i64 ((T : Int) + i), .int .i64 d.num, .bool d.mark]) ∧ Hid (w3.ownsRow w1.heap.size 23 5 (.slice (some ⟨gl, 0, none⟩) (i + 1) cap) (i + 1) (flat f (i + 1))) ∧ Hid (Below wo.heap.size wo w3) := by
            refine (Count_tag _ _ _ _ _ _ _ hww.out _).mono fun e w3 h => ?_
            have hb : Below (wo.alloc (.cells #[.int .i64 d.slot, .int .i64 d.gen, .int .i64 ((T : Int) + i), .int .i64 d.num, .bool d.mark] 23)).heap.size (wo.alloc (.cells #[.int .i64 d.slot, .int .i64 d.gen, .int .i64 ((T : Int) + i), .int .i64 d.num, .bool d.mark] 23)) w3 := ⟨h.2.os, h.2.tape, h.2.output, h.2.size, h.2.block⟩
            exact ⟨h.1, Lib.hid ((BlkW.new wo 23 _).below hb), Lib.hid (own_below (HO.out.alloc _) hb), Lib.hid (below_trans (below_alloc (Below.refl _ _) _) hb)⟩
          have CC := Lib.hid cC
          clear cC
          go_wp2
          go_region_with (first | (go_at_call 17; refine CC.out.mono ?_; rintro e w3 ⟨rfl, HBX, HRW, HB3⟩; obtain ⟨x0, x1, x2, x3, x4⟩ := cell5 HBX.out; have y0 := HBX.out.frozen 0; have y1 := HBX.out.frozen 1; have y2 := HBX.out.frozen 2; have y3 := HBX.out.frozen 3; have y4 := HBX.out.frozen 4))
          all_goals
            have HA3 := Lib.hid (HA2.out.below HB3.out)
            clear b0 b1 b2 b3 b4 l0 l1 l2 l3 l4 cx CC
            obtain ⟨b0, b1, b2, b3, b4⟩ := cell5 HA3.out
            have hz3 := HA3.out.lt
            go_wp2
            have hx5 := blk_set5 HBX.out (.int .i64 0) (.int .i64 0) (.int .i64 ((T : Int) + i + 1)) (.int .i64 (wrap64 (d.num + x))) (.bool false)
            have hr5 := own_set5 HRW.out hxne (.int .i64 0) (.int .i64 0) (.int .i64 ((T : Int) + i + 1)) (.int .i64 (wrap64 (d.num + x))) (.bool false)
            have hb5 := below_set5 (below_trans HB.out HB3.out) HB.out.size (.int .i64 0) (.int .i64 0) (.int .i64 ((T : Int) + i + 1)) (.int .i64 (wrap64 (d.num + x))) (.bool false)
            unfold set5 at hx5 hr5 hb5
            clear HBX HRW HB3 HA3 x0 x1 x2 x3 x4 y0 y1 y2 y3 y4 b0 b1 b2 b3 b4 HO HB HA2 hz1 hz3 hww
            generalize ((((w3.setCell ⟨wo.heap.size, 0, none⟩ (.int .i64 0)).setCell ⟨wo.heap.size, 1, none⟩ (.int .i64 0)).setCell ⟨wo.heap.size, 2, none⟩ (.int .i64 ((T : Int) + i + 1))).setCell ⟨wo.heap.size, 3, none⟩ (.int .i64 (wrap64 (d.num + x)))).setCell ⟨wo.heap.size, 4, none⟩ (.bool false) = wZ at hx5 hr5 hb5 ⊢
            have HX5 := Lib.hid hx5
            have HR5 := Lib.hid hr5
            have HB5 := Lib.hid hb5
            clear hx5 hr5 hb5
            go_loopw [8] (RkRel wZ i) (fun k _ => (i + 1) - (intOf k).toNat)
            case atStart => exact ⟨0, by omega, rfl, Below.refl _ _⟩
            case round =>
              obtain ⟨k, hk, rfl, hq⟩ := hrel
              have HXq := Lib.hid (HX5.out.below hq)
              have HRq := Lib.hid (own_below HR5.out hq)
              have HQ := Lib.hid hq
              clear hq
              by_cases hk2 : k < i + 1
              · obtain ⟨q0, q1, q2, q3, q4⟩ := flat5 HRq.out k hk2
                have ht := HT.out k (by omega)
                obtain ⟨e, he⟩ : ∃ e, e = f k := ⟨_, rfl⟩
                rw [← he] at q0 q1 q2 q3 q4 ht
                rw [ht] at q2
                clear he ht
                have rq0 := cell_regrown q0
                have rq1 := cell_regrown q1
                have rq2 := cell_regrown q2
                have rq3 := cell_regrown q3
                have rq4 := cell_regrown q4
                obtain ⟨rx0, rx1, rx2, rx3, rx4⟩ := re5 HXq.out
                have cS := Lib.hid (Same_ne (w := wr) ((T : Int) + i + 1) ((T + k : Nat) : Int) (by omega))
                simp only [Int.natCast_add] at cS rq2
                clear q0 q1 q2 q3 q4
                go_wp2
                refine wp_region_quiet_below (by kernel_rfl) (by kernel_rfl) ?_
                repeat (go_big_quiet_step ((with_reducible exact cS.out _ _ _ _ _ _ _ _ _ _)))
                refine wpQuiet_nil ?_
                intro _ hw'
                obtain ⟨⟨dq, osq⟩, hw''⟩ := hw'
                subst hw''
                clear rq0 rq1 rq2 rq3 rq4 rx0 rx1 rx2 rx3 rx4
                go_wp2
                refine ⟨⟨k + 1, by omega, by go_num, below_trans HQ.out (below_regrown wr dq osq)⟩, by simp [intOf]; omega⟩
              · obtain rfl : k = i + 1 := by omega
                obtain ⟨x0, x1, x2, x3, x4⟩ := cell5 HXq.out
                obtain ⟨i0, hi0, hz0, hz1, hz2⟩ := info_parts info23
                go_wp2_with (at_builtin; refine wpList_append_own _ rfl _ _ 45 rfl w1.heap.size 23 i0 (.agg #[.int .i64 0, .int .i64 0, .int .i64 0, .int .i64 0, .bool false]) 5 40 Tryd.underlying45 hi0 hz0 hz1 hz2 rfl (by decide) _ _ _ rfl (HRq.out.alloc _) ⟨wr.heap.size, 0, none⟩ 1 1 (wc ⟨0, 0, (T : Int) + i + 1, (wrap64 (d.num + x)), false⟩) rfl rfl ?c1 ?c2 ?c3 ?c4 ?c5 ?_)
                case c1 => exact news_at wr ⟨0, 0, (T : Int) + i + 1, (wrap64 (d.num + x)), false⟩
                case c2 => intro u hu; simp [wc] at hu; rcases hu with rfl | rfl | rfl | rfl | rfl <;> rfl
                case c3 => simp [maxLen]; omega
                case c4 => omega
                case c5 => rw [World.size_alloc]; have := HB5.out.size; have := HQ.out.size; omega
                intro v' w4 hown' hgrow _
                have hb6 := (below_alloc (below_trans HB5.out HQ.out) _).grown hgrow (below_alloc (below_trans HB5.out HQ.out) _).size (fun k hk => by simp [Value.ownBlock] at hk; omega)
                clear hgrow x0 x1 x2 x3 x4
                have HO6 := Lib.hid hown'
                have HB6 := Lib.hid hb6
                clear hown' hb6
                go_wp2
                refine ⟨⟨i + 1, fun j => if j = i + 1 then ⟨0, 0, (T : Int) + i + 1, (wrap64 (d.num + x)), false⟩ else f j, by omega, by go_num, rise_row HO6.out, fun j hj => ?_, HB6.out⟩, by simp [intOf]; omega⟩
                dsimp only
                by_cases e : j = i + 1
                · rw [if_pos e, e]; show (T : Int) + i + 1 = _; omega
                · rw [if_neg e]; exact HT.out j (by omega)
    · obtain rfl : i = xs.length := by omega
      have HE := Lib.hid (below_trans HB1.out HB.out)
      clear hown htag
      go_wp2
      go_ret
      exact ⟨rfl, HE.out⟩

set_option maxRecDepth 100000 in
set_option maxHeartbeats 1000000 in
theorem rises_nil (a b : Addr) (s g n : Int) (T : Nat) (m : Bool) (ao : Option Addr) (cp : Nat) (w : World) (L : Env w a b) (hT : T ≤ 1099511627776) :
    Calls Tryd.prog 7 #[.agg #[.int .i64 s, .int .i64 g, .int .i64 T, .int .i64 n, .bool m], .slice ao 0 cp] w (True1 w) := by
  have HL := Lib.hid L
  have AW := Lib.hid (awake_true a b)
  clear L
  have h2 : ¬ (T : Int) < 0 := by omega
  have h3 : (T : Int) ≤ 1099511627776 := by omega
  have k2 : decide ((T : Int) < 0) = false := by simp
  have k3 : decide ((1099511627776 : Int) < T) = false := by simpa using h3
  go_enter Tryd.func7, Tryd.ntmps7
  go_wp2_with fail
  refine (AW.out _ (HL.out.keep (below_alloc (Below.refl _ _) _))).mono ?_
  rintro e w1 ⟨rfl, hb⟩
  have HA := Lib.hid ((BlkW.new w 23 #[.int .i64 s, .int .i64 g, .int .i64 T, .int .i64 n, .bool m]).below hb)
  have HB1 := Lib.hid (below_trans (below_alloc (Below.refl _ _) _) hb)
  clear hb
  obtain ⟨a0, a1, a2, a3, a4⟩ := cell5 HA.out
  go_wp2
  clear a0 a1 a2 a3 a4
  go_loopw [5, 6] (RiRel w1 T 0) (fun _ i _ => 0 - (intOf i).toNat)
  case atStart =>
    refine ⟨0, fun _ => ⟨s, g, T, n, m⟩, by omega, rfl, one_row w1 ⟨s, g, T, n, m⟩, ?_, below_alloc (Below.refl _ _) _⟩
    intro j hj
    obtain rfl : j = 0 := by omega
    rfl
  case round =>
    obtain ⟨i, f, hi, rfl, hown, htag, hbel⟩ := hrel
    obtain rfl : i = 0 := by omega
    have HE := Lib.hid (below_trans HB1.out hbel)
    clear hown htag hbel
    go_wp2
    go_ret
    exact ⟨rfl, HE.out⟩
theorem rises_any (a b : Addr) (s g t n : Int) (m : Bool) (v : Value) (xs : List Int) (w : World) (L : Env w a b) (hv : Row w v xs) :
    Calls Tryd.prog 7 #[.agg #[.int .i64 s, .int .i64 g, .int .i64 t, .int .i64 n, .bool m], v] w (True1 w) := by
  by_cases ho : 60 < xs.length ∨ t < 0 ∨ 1099511627776 < t
  · exact rises_out a b s g t n m v xs w L hv ho
  · obtain ⟨T, rfl⟩ : ∃ T : Nat, t = T := ⟨t.toNat, by omega⟩
    rcases hv with ⟨⟨ao, cp, rfl⟩, rfl⟩ | ⟨bx, off, cp, rfl, hbx, _, hcx⟩
    · exact rises_nil a b s g n T m ao cp w L (by omega)
    · exact rises_in a b s g n T m bx off cp xs w L hbx hcx (by omega) (by omega)
end Go.Proofs.YtjkgglihpkkieaaDoor
