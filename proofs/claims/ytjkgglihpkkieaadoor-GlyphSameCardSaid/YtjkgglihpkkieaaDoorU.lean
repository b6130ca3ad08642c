/- A block that is known whole; strconv.Atoi and strings.Split in one; read. -/
import Derived.Test.YtjkgglihpkkieaaDoorR
namespace Go.Proofs.YtjkgglihpkkieaaDoor
open Go.RowKit Go.Extern.Stop Go.Stop Go.Extern

/-! ### a block that is known whole -/
def BlkW (w : World) (g : Nat) (t : TypeId) (cs : Array Value) : Prop := w.heap[g]? = some (.cells cs t (0, 0))
section
variable {w w' : World} {g : Nat} {t : TypeId} {cs : Array Value}
theorem BlkW.lt (h : BlkW w g t cs) : g < w.heap.size := by
  rcases Nat.lt_or_ge g w.heap.size with hlt | hge
  · exact hlt
  · unfold BlkW at h; rw [Array.getElem?_eq_none hge] at h; cases h
theorem BlkW.cell (h : BlkW w g t cs) (i : Nat) : w.cell? ⟨g, i, none⟩ = cs[i]? := by
  unfold BlkW at h
  simp [World.cell?, h]
theorem BlkW.frozen (h : BlkW w g t cs) (i : Nat) : w.frozen? ⟨g, i, none⟩ = false := by
  unfold BlkW at h
  simp [World.frozen?, h]
theorem BlkW.new (w : World) (t : TypeId) (cs : Array Value) : BlkW (w.alloc (.cells cs t)) w.heap.size t cs := by
  show (w.heap.push _)[w.heap.size]? = _
  simp
theorem BlkW.alloc (h : BlkW w g t cs) (o : Obj) : BlkW (w.alloc o) g t cs := (Below.heap_alloc w o g h.lt).trans h
theorem BlkW.set (h : BlkW w g t cs) (i : Nat) (u : Value) : BlkW (w.setCell ⟨g, i, none⟩ u) g t (cs.setIfInBounds i u) := by
  unfold BlkW at h ⊢
  simp [World.setCell, Array.getElem?_modify, h]
theorem BlkW.far (h : BlkW w g t cs) {b i : Nat} (hp : g ≠ b) (u : Value) : BlkW (w.setCell ⟨b, i, none⟩ u) g t cs := (Below.heap_setCell w ⟨b, i, none⟩ u g hp).trans h
theorem BlkW.below (h : BlkW w g t cs) (hb : Below w.heap.size w w') : BlkW w' g t cs := (hb.block g h.lt).trans h
end

/-! ### strconv.Atoi, in one -/
theorem atoi_ok (s : ByteArray) (hs : s.size ≤ 1000) (v : Int) (h : Lib.atoiAll s.data.toList = .ok v) (w : World) :
    Calls Tryd.prog 33 #[.string s] w fun e w' => e = .returned (.tuple #[.int .i64 v, .nilIface]) ∧ Below w.heap.size w w' :=
  (Tryd.strconv_Atoi_ok s (by omega) v h w).mono fun e w' ⟨he, hw⟩ => ⟨he, by
    rcases hw with rfl | ⟨t, rfl⟩
    · exact Below.refl _ _
    · exact ⟨rfl, rfl, rfl, by rw [Lib.bytesWorld_size]; omega, fun k hk => Lib.bytesWorld_at_old w 5 t k hk⟩⟩
theorem atoi_bad (s : ByteArray) (hs : s.size ≤ 1000) (h : ∀ v, Lib.atoiAll s.data.toList ≠ .ok v) (a b : Addr) (w : World) (L : Env w a b) :
    Calls Tryd.prog 33 #[.string s] w fun e w' => ∃ n N, e = .returned (.tuple #[.int .i64 n, .iface 93 (.pointer (some ⟨N, 0, none⟩))]) ∧ Below w.heap.size w w' := by
  cases hc : Lib.atoiAll s.data.toList
  · exact absurd hc (h _)
  · obtain ⟨t, p, hv⟩ := L.syn
    have c := Any.strconv_Atoi_syntax Tryd.laysC172 s (by omega) hc _ w hv (.inr ⟨_, _, rfl⟩)
    exact Calls.mono (show Calls Tryd.prog 33 #[.string s] w _ from c) fun e w' ⟨N, he, _, _, hb⟩ => ⟨_, N, he, hb⟩
  · obtain ⟨t, p, hv⟩ := L.rng
    exact (Tryd.strconv_Atoi_range s (by omega) hc _ w hv (.inr ⟨_, _, rfl⟩)).mono fun e w' ⟨N, he, _, _, hb⟩ => ⟨_, N, he, hb⟩
theorem Split_any (s : ByteArray) (hs : s.size ≤ 1000) (a b : Addr) (w : World) (L : Env w a b) :
    Calls Tryd.prog 32 #[.string s, .string ⟨#[46]⟩] w fun e w' => ∃ ps : List ByteArray, e = .returned (.slice (some ⟨w.heap.size, 0, none⟩) ps.length ps.length) ∧ ps.map (·.data.toList) = Lib.split s.data.toList [46] ∧ w' = w.alloc (.cells (ps.map Value.string).toArray 9) := by
  obtain ⟨m, hm⟩ := L.max
  refine (Tryd.strings_Split s ⟨#[46]⟩ m w (by omega) hm (by decide)).mono fun e w' ⟨he, hw⟩ => ⟨Lib.splitB ⟨#[46]⟩ 0 (Lib.countB s ⟨#[46]⟩) s, ?_, ?_, hw⟩
  · rw [Lib.splitB_all _ (by decide) 0 _ s rfl]; exact he
  · rw [Lib.splitB_data]; rfl

/-! ### read -/
def RdPost (w : World) (s : ByteArray) (e : Ending) (w' : World) : Prop :=
  ∃ (c : Wd) (r : Bool), e = .returned (.tuple #[.agg #[.int .i64 c.slot, .int .i64 c.gen, .int .i64 c.tag, .int .i64 c.num, .bool c.mark], .bool r]) ∧ (∀ d : Wd, d.Good → txtB d = s → r = true ∧ c = d) ∧ Below w.heap.size w w'

set_option maxRecDepth 100000 in
theorem read_long (s : ByteArray) (hs : 49 < s.size) (w : World) : Calls Tryd.prog 25 #[.string s] w (RdPost w s) := by
  have h49 : (49 : Int) < s.size := by omega
  have HP : Hid (∀ d : Wd, d.Good → txtB d = s → false = true ∧ Wd.mk 0 0 0 0 false = d) := fun d hd e => by
    have h1 := txt_len hd
    have h2 : (txtB d).size = (txt d).length := rfl
    rw [e] at h2; omega
  go_enter Tryd.func25, Tryd.ntmps25
  go_wp2
  refine bodyPost_ret (v := .tuple #[.agg #[.int .i64 0, .int .i64 0, .int .i64 0, .int .i64 0, .bool false], .bool false]) (by simp [results, Tryd.results25, go_sem]) rfl ⟨⟨0, 0, 0, 0, false⟩, false, rfl, HP.out, ?_⟩
  exact below_alloc (Below.refl _ _) _

theorem txt_size {d : Wd} {s : ByteArray} (hd : d.Good) (e : txtB d = s) : s.size ≤ 49 := by
  have h1 := txt_len hd
  have h2 : (txtB d).size = (txt d).length := rfl
  rw [e] at h2; omega
theorem of_split {d : Wd} {s : ByteArray} {l : List (List UInt8)} (h : l = Lib.split s.data.toList [46]) (e : txtB d = s) : l = [[if d.mark then 109 else 110], Lib.itoa d.slot, Lib.itoa d.gen, Lib.itoa d.tag, Lib.itoa d.num] := by
  rw [h, ← e]; exact split_txt d

theorem splitK_len (k : Nat) : ∀ (l x : List UInt8), x ∈ Lib.splitK [46] 0 k l → x.length ≤ l.length := by
  induction k with
  | zero => intro l x h; simp [Lib.splitK] at h; subst h; exact Nat.le_refl _
  | succ k ih =>
    intro l x h
    rw [Lib.splitK] at h
    split at h
    · simp at h; subst h; exact Nat.le_refl _
    · rcases List.mem_cons.1 h with rfl | h
      · simp; omega
      · have := ih _ x h
        simp at this; omega
theorem parts_size {s p0 p1 p2 p3 p4 : ByteArray} (hs : s.size ≤ 49) (h : [p0, p1, p2, p3, p4].map (·.data.toList) = Lib.split s.data.toList [46]) : p1.size ≤ 1000 ∧ p2.size ≤ 1000 ∧ p3.size ≤ 1000 ∧ p4.size ≤ 1000 := by
  have key : ∀ p ∈ [p0, p1, p2, p3, p4], p.size ≤ 1000 := fun p hp => by
    have hm : p.data.toList ∈ Lib.split s.data.toList [46] := by rw [← h]; exact List.mem_map_of_mem hp
    have h1 := splitK_len _ _ _ hm
    have h2 : p.data.toList.length = p.size := rfl
    have h3 : s.data.toList.length = s.size := rfl
    omega
  exact ⟨key _ (by simp), key _ (by simp), key _ (by simp), key _ (by simp)⟩
/-- What holds at the head of read's loop: p1 .. p4: the parts; m: whether it is marked. -/
structure RdInv (w : World) (p0 p1 p2 p3 p4 : ByteArray) (m : Bool) (v : Value) (wr : World) : Prop where
  below : Below w.heap.size w wr
  res : BlkW wr w.heap.size 23 #[.int .i64 0, .int .i64 0, .int .i64 0, .int .i64 0, .bool false]
  ptr : BlkW wr (w.heap.size + 1 + 1) 62 #[.pointer (some ⟨w.heap.size + 1, 0, none⟩), .pointer (some ⟨w.heap.size + 1, 1, none⟩), .pointer (some ⟨w.heap.size + 1, 2, none⟩), .pointer (some ⟨w.heap.size + 1, 3, none⟩)]
  parts : BlkW wr (w.heap.size + 1 + 1 + 1) 9 #[.string p0, .string p1, .string p2, .string p3, .string p4]
  word : (v = .int .i64 0 ∧ BlkW wr (w.heap.size + 1) 23 #[.int .i64 0, .int .i64 0, .int .i64 0, .int .i64 0, .bool m]) ∨
    (v = .int .i64 1 ∧ ∃ a, Lib.atoiAll p1.data.toList = .ok a ∧ BlkW wr (w.heap.size + 1) 23 #[.int .i64 a, .int .i64 0, .int .i64 0, .int .i64 0, .bool m]) ∨
    (v = .int .i64 2 ∧ ∃ a b, Lib.atoiAll p1.data.toList = .ok a ∧ Lib.atoiAll p2.data.toList = .ok b ∧ BlkW wr (w.heap.size + 1) 23 #[.int .i64 a, .int .i64 b, .int .i64 0, .int .i64 0, .bool m]) ∨
    (v = .int .i64 3 ∧ ∃ a b c, Lib.atoiAll p1.data.toList = .ok a ∧ Lib.atoiAll p2.data.toList = .ok b ∧ Lib.atoiAll p3.data.toList = .ok c ∧ BlkW wr (w.heap.size + 1) 23 #[.int .i64 a, .int .i64 b, .int .i64 c, .int .i64 0, .bool m]) ∨
    (v = .int .i64 4 ∧ ∃ a b c d, Lib.atoiAll p1.data.toList = .ok a ∧ Lib.atoiAll p2.data.toList = .ok b ∧ Lib.atoiAll p3.data.toList = .ok c ∧ Lib.atoiAll p4.data.toList = .ok d ∧ BlkW wr (w.heap.size + 1) 23 #[.int .i64 a, .int .i64 b, .int .i64 c, .int .i64 d, .bool m])

set_option maxRecDepth 100000 in
set_option maxHeartbeats 4000000 in
theorem read_short (s : ByteArray) (hs : s.size ≤ 49) (a b : Addr) (w : World) (L : Env w a b) : Calls Tryd.prog 25 #[.string s] w (RdPost w s) := by
  have h49 : (s.size : Int) ≤ 49 := by omega
  have HL : Hid _ := L
  clear L
  go_enter Tryd.func25, Tryd.ntmps25
  go_wp2_with fail
  refine (Split_any s (by omega) a b _ (HL.out.keep (below_alloc (below_alloc (below_alloc (Below.refl _ _) _) _) _))).mono ?_
  rintro e w2 ⟨ps, rfl, hps, rfl⟩
  by_cases h5 : ps.length = 5
  · match ps, h5 with
    | [p0, p1, p2, p3, p4], _ =>
      have sz := parts_size hs hps
      have HPS : Hid _ := hps
      clear hps
      go_wp2_with fail
      go_loopw [35] (RdInv w p0 p1 p2 p3 p4 (p0.toList == [109])) (fun i _ => 4 - (intOf i).toNat)
      case atStart =>
        refine ⟨below_alloc (below_alloc (below_alloc (below_alloc (Below.refl _ _) _) _) _) _, (((BlkW.new w 23 _).alloc _).alloc _).alloc _, ?_, ?_, .inl ⟨rfl, ?_⟩⟩
        · have := (BlkW.new ((w.alloc (.cells #[.int .i64 0, .int .i64 0, .int .i64 0, .int .i64 0, .bool false] 23)).alloc (.cells #[.int .i64 0, .int .i64 0, .int .i64 0, .int .i64 0, .bool (p0.toList == [109])] 23)) 62 #[.pointer (some ⟨w.heap.size + 1, 0, none⟩), .pointer (some ⟨w.heap.size + 1, 1, none⟩), .pointer (some ⟨w.heap.size + 1, 2, none⟩), .pointer (some ⟨w.heap.size + 1, 3, none⟩)]).alloc (.cells #[.string p0, .string p1, .string p2, .string p3, .string p4] 9)
          simp only [World.size_alloc] at this
          exact this
        · have := BlkW.new (((w.alloc (.cells #[.int .i64 0, .int .i64 0, .int .i64 0, .int .i64 0, .bool false] 23)).alloc (.cells #[.int .i64 0, .int .i64 0, .int .i64 0, .int .i64 0, .bool (p0.toList == [109])] 23)).alloc (.cells #[.pointer (some ⟨w.heap.size + 1, 0, none⟩), .pointer (some ⟨w.heap.size + 1, 1, none⟩), .pointer (some ⟨w.heap.size + 1, 2, none⟩), .pointer (some ⟨w.heap.size + 1, 3, none⟩)] 62)) 9 #[.string p0, .string p1, .string p2, .string p3, .string p4]
          simp only [World.size_alloc] at this
          exact this
        · have := ((BlkW.new (w.alloc (.cells #[.int .i64 0, .int .i64 0, .int .i64 0, .int .i64 0, .bool false] 23)) 23 #[.int .i64 0, .int .i64 0, .int .i64 0, .int .i64 0, .bool (p0.toList == [109])]).alloc (.cells #[.pointer (some ⟨w.heap.size + 1, 0, none⟩), .pointer (some ⟨w.heap.size + 1, 1, none⟩), .pointer (some ⟨w.heap.size + 1, 2, none⟩), .pointer (some ⟨w.heap.size + 1, 3, none⟩)] 62)).alloc (.cells #[.string p0, .string p1, .string p2, .string p3, .string p4] 9)
          simp only [World.size_alloc] at this
          exact this
      case round =>
        obtain ⟨hb, hres, hptr, hparts, hword⟩ := hrel
        have HB := Lib.hid hb
        have HR := Lib.hid hres
        have HQ := Lib.hid hptr
        have HS := Lib.hid hparts
        have q1 := hparts.cell 1
        have q2 := hparts.cell 2
        have q3 := hparts.cell 3
        have q4 := hparts.cell 4
        simp only [List.getElem?_toArray, List.getElem?_cons_succ, List.getElem?_cons_zero] at q1 q2 q3 q4
        clear hb hres hptr hparts
        rcases hword with ⟨rfl, hw⟩ | ⟨rfl, x0, e0, hw⟩ | ⟨rfl, x0, x1, e0, e1, hw⟩ | ⟨rfl, x0, x1, x2, e0, e1, e2, hw⟩ | ⟨rfl, x0, x1, x2, x3, e0, e1, e2, e3, hw⟩
        · have HW := Lib.hid hw
          clear hw
          by_cases hok : ∃ x, Lib.atoiAll p1.data.toList = .ok x
          · obtain ⟨x0, e0⟩ := hok
            have E0 := Lib.hid e0
            clear e0
            go_wp2_with fail
            refine (atoi_ok p1 sz.1 x0 E0.out _).mono ?_
            rintro e w3 ⟨rfl, hb3⟩
            have HB3 := Lib.hid hb3
            have r2 := (HQ.out.below hb3).cell 0
            have r3 := (HW.out.below hb3).cell 0
            simp only [List.getElem?_toArray, List.getElem?_cons_zero] at r2 r3
            have r4 := (HW.out.below hb3).frozen 0
            have HW3 := Lib.hid ((HW.out.below hb3).set 0 (.int .i64 x0))
            clear hb3
            go_wp2_with fail
            refine ⟨⟨below_set (below_trans HB.out HB3.out) _ _ _ (by omega), (HR.out.below HB3.out).far (by omega) _, (HQ.out.below HB3.out).far (by omega) _, (HS.out.below HB3.out).far (by omega) _, .inr (.inl ⟨rfl, x0, E0.out, HW3.out⟩)⟩, by simp [intOf]⟩
          · have hno : Hid (∀ d : Wd, d.Good → txtB d = s → False) := fun d hd e => by
              have := of_split HPS.out e
              simp only [List.map_cons, List.map_nil, List.cons.injEq, and_true] at this
              obtain ⟨-, t0, t1, t2, t3⟩ := this
              obtain ⟨g1, g2, g3, g4, -⟩ := hd
              exact hok ⟨d.slot, by rw [t0]; exact atoiAll_itoa _ (by omega) (by omega)⟩
            have hbad := Lib.hid (show ∀ v, Lib.atoiAll p1.data.toList ≠ .ok v from fun v hv => hok ⟨v, hv⟩)
            clear hok
            go_wp2_with fail
            refine (atoi_bad p1 sz.1 hbad.out a b _ (HL.out.keep HB.out)).mono ?_
            rintro e w3 ⟨n3, N3, rfl, hb3⟩
            have HB3 := Lib.hid (below_trans HB.out hb3)
            have r0 := (HR.out.below hb3).cell 0
            have r1 := (HR.out.below hb3).cell 1
            have r2 := (HR.out.below hb3).cell 2
            have r3 := (HR.out.below hb3).cell 3
            have r4 := (HR.out.below hb3).cell 4
            simp only [List.getElem?_toArray, List.getElem?_cons_succ, List.getElem?_cons_zero] at r0 r1 r2 r3 r4
            have f0 := (HR.out.below hb3).frozen 0
            have f1 := (HR.out.below hb3).frozen 1
            have f2 := (HR.out.below hb3).frozen 2
            have f3 := (HR.out.below hb3).frozen 3
            have f4 := (HR.out.below hb3).frozen 4
            clear hb3
            go_wp2
            refine bodyPost_ret (v := .tuple #[.agg #[.int .i64 0, .int .i64 0, .int .i64 0, .int .i64 0, .bool false], .bool false]) (by simp [results, Tryd.results25, go_sem, r0, r1, r2, r3, r4]) rfl ⟨⟨0, 0, 0, 0, false⟩, false, rfl, fun d hd e => (hno.out d hd e).elim, ?_⟩
            clear HR HQ HS HW HL HPS hno hbad
            have hb3 := HB3.out
            clear HB3
            repeat (first | with_reducible exact hb3 | with_reducible refine below_set ?_ _ _ _ (Nat.le_refl _))
        · have HW := Lib.hid hw
          have E0 := Lib.hid e0
          clear e0
          clear hw
          by_cases hok : ∃ x, Lib.atoiAll p2.data.toList = .ok x
          · obtain ⟨x1, e1⟩ := hok
            have E1 := Lib.hid e1
            clear e1
            go_wp2_with fail
            refine (atoi_ok p2 sz.2.1 x1 E1.out _).mono ?_
            rintro e w3 ⟨rfl, hb3⟩
            have HB3 := Lib.hid hb3
            have r2 := (HQ.out.below hb3).cell 1
            have r3 := (HW.out.below hb3).cell 1
            simp only [List.getElem?_toArray, List.getElem?_cons_succ, List.getElem?_cons_zero] at r2 r3
            have r4 := (HW.out.below hb3).frozen 1
            have HW3 := Lib.hid ((HW.out.below hb3).set 1 (.int .i64 x1))
            clear hb3
            go_wp2_with fail
            refine ⟨⟨below_set (below_trans HB.out HB3.out) _ _ _ (by omega), (HR.out.below HB3.out).far (by omega) _, (HQ.out.below HB3.out).far (by omega) _, (HS.out.below HB3.out).far (by omega) _, .inr (.inr (.inl ⟨rfl, x0, x1, E0.out, E1.out, HW3.out⟩))⟩, by simp [intOf]⟩
          · have hno : Hid (∀ d : Wd, d.Good → txtB d = s → False) := fun d hd e => by
              have := of_split HPS.out e
              simp only [List.map_cons, List.map_nil, List.cons.injEq, and_true] at this
              obtain ⟨-, t0, t1, t2, t3⟩ := this
              obtain ⟨g1, g2, g3, g4, -⟩ := hd
              exact hok ⟨d.gen, by rw [t1]; exact atoiAll_itoa _ (by omega) (by omega)⟩
            have hbad := Lib.hid (show ∀ v, Lib.atoiAll p2.data.toList ≠ .ok v from fun v hv => hok ⟨v, hv⟩)
            clear hok
            go_wp2_with fail
            refine (atoi_bad p2 sz.2.1 hbad.out a b _ (HL.out.keep HB.out)).mono ?_
            rintro e w3 ⟨n3, N3, rfl, hb3⟩
            have HB3 := Lib.hid (below_trans HB.out hb3)
            have r0 := (HR.out.below hb3).cell 0
            have r1 := (HR.out.below hb3).cell 1
            have r2 := (HR.out.below hb3).cell 2
            have r3 := (HR.out.below hb3).cell 3
            have r4 := (HR.out.below hb3).cell 4
            simp only [List.getElem?_toArray, List.getElem?_cons_succ, List.getElem?_cons_zero] at r0 r1 r2 r3 r4
            have f0 := (HR.out.below hb3).frozen 0
            have f1 := (HR.out.below hb3).frozen 1
            have f2 := (HR.out.below hb3).frozen 2
            have f3 := (HR.out.below hb3).frozen 3
            have f4 := (HR.out.below hb3).frozen 4
            clear hb3
            go_wp2
            refine bodyPost_ret (v := .tuple #[.agg #[.int .i64 0, .int .i64 0, .int .i64 0, .int .i64 0, .bool false], .bool false]) (by simp [results, Tryd.results25, go_sem, r0, r1, r2, r3, r4]) rfl ⟨⟨0, 0, 0, 0, false⟩, false, rfl, fun d hd e => (hno.out d hd e).elim, ?_⟩
            clear HR HQ HS HW HL HPS hno hbad
            have hb3 := HB3.out
            clear HB3
            repeat (first | with_reducible exact hb3 | with_reducible refine below_set ?_ _ _ _ (Nat.le_refl _))
        · have HW := Lib.hid hw
          have E0 := Lib.hid e0
          have E1 := Lib.hid e1
          clear e0 e1
          clear hw
          by_cases hok : ∃ x, Lib.atoiAll p3.data.toList = .ok x
          · obtain ⟨x2, e2⟩ := hok
            have E2 := Lib.hid e2
            clear e2
            go_wp2_with fail
            refine (atoi_ok p3 sz.2.2.1 x2 E2.out _).mono ?_
            rintro e w3 ⟨rfl, hb3⟩
            have HB3 := Lib.hid hb3
            have r2 := (HQ.out.below hb3).cell 2
            have r3 := (HW.out.below hb3).cell 2
            simp only [List.getElem?_toArray, List.getElem?_cons_succ, List.getElem?_cons_zero] at r2 r3
            have r4 := (HW.out.below hb3).frozen 2
            have HW3 := Lib.hid ((HW.out.below hb3).set 2 (.int .i64 x2))
            clear hb3
            go_wp2_with fail
            refine ⟨⟨below_set (below_trans HB.out HB3.out) _ _ _ (by omega), (HR.out.below HB3.out).far (by omega) _, (HQ.out.below HB3.out).far (by omega) _, (HS.out.below HB3.out).far (by omega) _, .inr (.inr (.inr (.inl ⟨rfl, x0, x1, x2, E0.out, E1.out, E2.out, HW3.out⟩)))⟩, by simp [intOf]⟩
          · have hno : Hid (∀ d : Wd, d.Good → txtB d = s → False) := fun d hd e => by
              have := of_split HPS.out e
              simp only [List.map_cons, List.map_nil, List.cons.injEq, and_true] at this
              obtain ⟨-, t0, t1, t2, t3⟩ := this
              obtain ⟨g1, g2, g3, g4, -⟩ := hd
              exact hok ⟨d.tag, by rw [t2]; exact atoiAll_itoa _ (by omega) (by omega)⟩
            have hbad := Lib.hid (show ∀ v, Lib.atoiAll p3.data.toList ≠ .ok v from fun v hv => hok ⟨v, hv⟩)
            clear hok
            go_wp2_with fail
            refine (atoi_bad p3 sz.2.2.1 hbad.out a b _ (HL.out.keep HB.out)).mono ?_
            rintro e w3 ⟨n3, N3, rfl, hb3⟩
            have HB3 := Lib.hid (below_trans HB.out hb3)
            have r0 := (HR.out.below hb3).cell 0
            have r1 := (HR.out.below hb3).cell 1
            have r2 := (HR.out.below hb3).cell 2
            have r3 := (HR.out.below hb3).cell 3
            have r4 := (HR.out.below hb3).cell 4
            simp only [List.getElem?_toArray, List.getElem?_cons_succ, List.getElem?_cons_zero] at r0 r1 r2 r3 r4
            have f0 := (HR.out.below hb3).frozen 0
            have f1 := (HR.out.below hb3).frozen 1
            have f2 := (HR.out.below hb3).frozen 2
            have f3 := (HR.out.below hb3).frozen 3
            have f4 := (HR.out.below hb3).frozen 4
            clear hb3
            go_wp2
            refine bodyPost_ret (v := .tuple #[.agg #[.int .i64 0, .int .i64 0, .int .i64 0, .int .i64 0, .bool false], .bool false]) (by simp [results, Tryd.results25, go_sem, r0, r1, r2, r3, r4]) rfl ⟨⟨0, 0, 0, 0, false⟩, false, rfl, fun d hd e => (hno.out d hd e).elim, ?_⟩
            clear HR HQ HS HW HL HPS hno hbad
            have hb3 := HB3.out
            clear HB3
            repeat (first | with_reducible exact hb3 | with_reducible refine below_set ?_ _ _ _ (Nat.le_refl _))
        · have HW := Lib.hid hw
          have E0 := Lib.hid e0
          have E1 := Lib.hid e1
          have E2 := Lib.hid e2
          clear e0 e1 e2
          clear hw
          by_cases hok : ∃ x, Lib.atoiAll p4.data.toList = .ok x
          · obtain ⟨x3, e3⟩ := hok
            have E3 := Lib.hid e3
            clear e3
            go_wp2_with fail
            refine (atoi_ok p4 sz.2.2.2 x3 E3.out _).mono ?_
            rintro e w3 ⟨rfl, hb3⟩
            have HB3 := Lib.hid hb3
            have r2 := (HQ.out.below hb3).cell 3
            have r3 := (HW.out.below hb3).cell 3
            simp only [List.getElem?_toArray, List.getElem?_cons_succ, List.getElem?_cons_zero] at r2 r3
            have r4 := (HW.out.below hb3).frozen 3
            have HW3 := Lib.hid ((HW.out.below hb3).set 3 (.int .i64 x3))
            clear hb3
            go_wp2_with fail
            refine ⟨⟨below_set (below_trans HB.out HB3.out) _ _ _ (by omega), (HR.out.below HB3.out).far (by omega) _, (HQ.out.below HB3.out).far (by omega) _, (HS.out.below HB3.out).far (by omega) _, .inr (.inr (.inr (.inr ⟨rfl, x0, x1, x2, x3, E0.out, E1.out, E2.out, E3.out, HW3.out⟩)))⟩, by simp [intOf]⟩
          · have hno : Hid (∀ d : Wd, d.Good → txtB d = s → False) := fun d hd e => by
              have := of_split HPS.out e
              simp only [List.map_cons, List.map_nil, List.cons.injEq, and_true] at this
              obtain ⟨-, t0, t1, t2, t3⟩ := this
              obtain ⟨g1, g2, g3, g4, -⟩ := hd
              exact hok ⟨d.num, by rw [t3]; exact atoiAll_itoa _ (by omega) (by omega)⟩
            have hbad := Lib.hid (show ∀ v, Lib.atoiAll p4.data.toList ≠ .ok v from fun v hv => hok ⟨v, hv⟩)
            clear hok
            go_wp2_with fail
            refine (atoi_bad p4 sz.2.2.2 hbad.out a b _ (HL.out.keep HB.out)).mono ?_
            rintro e w3 ⟨n3, N3, rfl, hb3⟩
            have HB3 := Lib.hid (below_trans HB.out hb3)
            have r0 := (HR.out.below hb3).cell 0
            have r1 := (HR.out.below hb3).cell 1
            have r2 := (HR.out.below hb3).cell 2
            have r3 := (HR.out.below hb3).cell 3
            have r4 := (HR.out.below hb3).cell 4
            simp only [List.getElem?_toArray, List.getElem?_cons_succ, List.getElem?_cons_zero] at r0 r1 r2 r3 r4
            have f0 := (HR.out.below hb3).frozen 0
            have f1 := (HR.out.below hb3).frozen 1
            have f2 := (HR.out.below hb3).frozen 2
            have f3 := (HR.out.below hb3).frozen 3
            have f4 := (HR.out.below hb3).frozen 4
            clear hb3
            go_wp2
            refine bodyPost_ret (v := .tuple #[.agg #[.int .i64 0, .int .i64 0, .int .i64 0, .int .i64 0, .bool false], .bool false]) (by simp [results, Tryd.results25, go_sem, r0, r1, r2, r3, r4]) rfl ⟨⟨0, 0, 0, 0, false⟩, false, rfl, fun d hd e => (hno.out d hd e).elim, ?_⟩
            clear HR HQ HS HW HL HPS hno hbad
            have hb3 := HB3.out
            clear HB3
            repeat (first | with_reducible exact hb3 | with_reducible refine below_set ?_ _ _ _ (Nat.le_refl _))
        · have HW := Lib.hid hw
          have r0 := HR.out.cell 0
          have r1 := HR.out.cell 1
          have r2 := HR.out.cell 2
          have r3 := HR.out.cell 3
          have r4 := HR.out.cell 4
          have v0 := hw.cell 0
          have v1 := hw.cell 1
          have v2 := hw.cell 2
          have v3 := hw.cell 3
          have v4 := hw.cell 4
          simp only [List.getElem?_toArray, List.getElem?_cons_succ, List.getElem?_cons_zero] at r0 r1 r2 r3 r4 v0 v1 v2 v3 v4
          have f0 := HR.out.frozen 0
          have f1 := HR.out.frozen 1
          have f2 := HR.out.frozen 2
          have f3 := HR.out.frozen 3
          have f4 := HR.out.frozen 4
          have hyes : Hid (∀ d : Wd, d.Good → txtB d = s → true = true ∧ Wd.mk x0 x1 x2 x3 (p0.toList == [109]) = d) := fun d hd e => by
            have := of_split HPS.out e
            simp only [List.map_cons, List.map_nil, List.cons.injEq, and_true] at this
            obtain ⟨t, t0, t1, t2, t3⟩ := this
            obtain ⟨g1, g2, g3, g4, -⟩ := hd
            rw [t0, atoiAll_itoa _ (by omega) (by omega)] at e0
            rw [t1, atoiAll_itoa _ (by omega) (by omega)] at e1
            rw [t2, atoiAll_itoa _ (by omega) (by omega)] at e2
            rw [t3, atoiAll_itoa _ (by omega) (by omega)] at e3
            injection e0 with e0; injection e1 with e1; injection e2 with e2; injection e3 with e3
            have tm : (p0.toList == [109]) = d.mark := by
              rw [ByteArray.toList_eq, t]
              cases d.mark <;> rfl
            refine ⟨rfl, ?_⟩
            rw [tm, ← e0, ← e1, ← e2, ← e3]
          clear hw e0 e1 e2 e3
          go_wp2
          refine bodyPost_ret (v := .tuple #[.agg #[.int .i64 x0, .int .i64 x1, .int .i64 x2, .int .i64 x3, .bool (p0.toList == [109])], .bool true]) (by simp [results, Tryd.results25, go_sem, r0, r1, r2, r3, r4]) rfl ⟨⟨x0, x1, x2, x3, (p0.toList == [109])⟩, true, rfl, fun d hd e => ⟨rfl, (hyes.out d hd e).2⟩, ?_⟩
          clear HR HQ HS HW HL HPS hyes
          have hb3 := HB.out
          clear HB
          repeat (first | with_reducible exact hb3 | with_reducible refine below_set ?_ _ _ _ (Nat.le_refl _))
  · have k5 : ((ps.length : Int) == 5) = false := by simpa using (by omega : ¬ (ps.length : Int) = 5)
    have k5' : ((ps.length : Int) != 5) = true := by simpa using (by omega : ¬ (ps.length : Int) = 5)
    have hno : Hid (∀ d : Wd, d.Good → txtB d = s → False) := fun d _ e => by
      have := congrArg List.length (of_split hps e)
      simp at this
      exact h5 this
    clear hps h5
    go_wp2
    refine bodyPost_ret (v := .tuple #[.agg #[.int .i64 0, .int .i64 0, .int .i64 0, .int .i64 0, .bool false], .bool false]) (by simp [results, Tryd.results25, go_sem]) rfl ⟨⟨0, 0, 0, 0, false⟩, false, rfl, fun d hd e => (hno.out d hd e).elim, ?_⟩
    repeat (first | with_reducible exact Below.refl _ _ | with_reducible refine below_alloc ?_ _)
theorem read_any (s : ByteArray) (a b : Addr) (w : World) (L : Env w a b) : Calls Tryd.prog 25 #[.string s] w (RdPost w s) := by
  by_cases h : s.size ≤ 49
  · exact read_short s h a b w L
  · exact read_long s (by omega) w
end Go.Proofs.YtjkgglihpkkieaaDoor
