/- What a scan frees, and RiteScans, as plain data. A template (fill.py). -/
import Derived.Test.YtjilhncnbkaebaaGreatDoorRA
import Derived.Test.YtjilhncnbkaebaaGreatDoorSteps
namespace Go.Proofs.YtjilhncnbkaebaaGreatDoor

theorem filter_cons_split {α : Type} (p : α → Bool) : ∀ (L : List α) (x : α) (l : List α), L.filter p = x :: l → ∃ A C, L = A ++ x :: C ∧ p x = true ∧ (∀ a ∈ A, p a = false) ∧ l = C.filter p
  | [], _, _, h => by simp at h
  | y :: L, x, l, h => by
    by_cases hy : p y = true
    · rw [List.filter_cons_of_pos hy] at h
      injection h with h1 h2
      subst h1
      exact ⟨[], L, rfl, hy, by simp, h2.symm⟩
    · rw [List.filter_cons_of_neg hy] at h
      obtain ⟨A, C, h1, h2, h3, h4⟩ := filter_cons_split p L x l h
      refine ⟨y :: A, C, by rw [h1]; rfl, h2, fun a ha => ?_, h4⟩
      rcases List.mem_cons.1 ha with rfl | ha
      · simpa using hy
      · exact h3 a ha
/-- What is left of what may be freed is part of the notes from where the scan is on. -/
theorem freeOk_of {m : Rt} (p : Nt → Bool) (h : m.st.free = (m.notes.drop m.st.pos).filter p) : FreeOk m := by
  intro x l e
  rw [h] at e
  obtain ⟨A, C, h1, h2, h3, _⟩ := filter_cons_split p _ _ _ e
  have hl : A.length < (m.notes.drop m.st.pos).length := by rw [h1]; simp
  refine ⟨A.length, hl, by rw [List.getElem_of_eq h1]; simp, fun j hj => ?_⟩
  have hj' : j < (m.notes.drop m.st.pos).length := Nat.lt_trans hj hl
  have e2 : (m.notes.drop m.st.pos)[j] = A[j] := by rw [List.getElem_of_eq h1]; simp [List.getElem_append_left, hj]
  rw [e2]
  intro k
  have := h3 A[j] (List.getElem_mem hj)
  rw [k, h2] at this
  cases this
theorem findIdx_app (x : Nt) : ∀ (A C : List Nt), (∀ a ∈ A, a ≠ x) → (A ++ x :: C).findIdx (fun y => decide (y = x)) = A.length
  | [], _, _ => by simp [List.findIdx_cons]
  | a :: A, C, h => by
    have h1 : ¬ a = x := h a (List.mem_cons_self ..)
    rw [List.cons_append, List.findIdx_cons, findIdx_app x A C (fun b hb => h b (List.mem_cons_of_mem _ hb))]
    simp [h1]
/-- A free is asked. -/
def Rt.freeing (m : Rt) (x : Nt) (l : List Nt) (k : Nat) : Rt := { m with st := ({ m.st with free := l, pos := k } : Sta).ask ⟨5, 0, 0, 0, x.ref, zw⟩ 8 }
theorem release_go {m : Rt} (p : Nt → Bool) {A C : List Nt} (hn : m.notes = A ++ C) (hpos : m.st.pos = A.length) (hf : m.st.free = C.filter p) :
    (m.release = m.ok ∧ ∀ a ∈ C, p a = false) ∨ ∃ A' x C', C = A' ++ x :: C' ∧ p x = true ∧ (∀ a ∈ A', p a = false) ∧ m.release = m.freeing x (C'.filter p) (A.length + A'.length) := by
  cases hc : C.filter p with
  | nil =>
    refine .inl ⟨?_, fun a ha => ?_⟩
    · unfold Rt.release; rw [hf, hc]
    · have := List.filter_eq_nil_iff.1 hc a ha
      simpa using this
  | cons x l =>
    obtain ⟨A', C', h1, h2, h3, h4⟩ := filter_cons_split p _ _ _ hc
    refine .inr ⟨A', x, C', h1, h2, h3, ?_⟩
    unfold Rt.release
    rw [hf, hc]
    show ({ m with st := ({ m.st with free := l, pos := idxFrom x m.notes m.st.pos } : Sta).ask ⟨5, 0, 0, 0, x.ref, zw⟩ 8 } : Rt) = _
    have e : idxFrom x m.notes m.st.pos = A.length + A'.length := by
      unfold idxFrom
      rw [hpos, hn, List.drop_left, h1, findIdx_app]
      intro a ha k
      have := h3 a ha
      rw [k, h2] at this
      cases this
    rw [e, h4]
    rfl

/-! ### RiteScans -/
def nt (s : Nat) : Nt := ⟨⟨(s : Int), 1, 0, 0, false⟩, 0, 0⟩
theorem nt_inj {a b : Nat} (h : nt a = nt b) : a = b := by
  unfold nt at h
  injection h with h
  injection h with h
  omega
/-- Whether a slot is announced by one of 27 cells. -/
def kp (D : Nat → Wd) (a : Nt) : Bool := (List.range 27).any fun c => slotK (D (25 + c)) a
theorem step_load {t : St} (f : Nat) (hf : f < t.m) : t.step ⟨1, 0, 0, (f : Int), zw, zw⟩ = (t.tick, t.board f, true) := by
  have hl : t.loc 0 0 (f : Int) = some (.board f) := loc_board t f hf
  rw [step_cell (a := ⟨1, 0, 0, (f : Int), zw, zw⟩) (.inl rfl) hl (miss_board t 0 .freed)]
  rfl
theorem step_store {t : St} (f : Nat) (hf : f < t.m) (d : Wd) : t.step ⟨2, 0, 0, (f : Int), zw, d⟩ = (t.tick.write (.board f) d, zw, true) := by
  have hl : t.loc 0 0 (f : Int) = some (.board f) := loc_board t f hf
  rw [step_cell (a := ⟨2, 0, 0, (f : Int), zw, d⟩) (.inr (.inl rfl)) hl (miss_board t 0 .freed)]
  rfl
theorem can_board {t : St} {k : Int} (hk : k = 1 ∨ k = 2 ∨ k = 3) (f : Nat) (hf : f < t.m) (d d' : Wd) : t.can ⟨k, 0, 0, (f : Int), d, d'⟩ = true :=
  can_cell t _ hk (.board f) (loc_board t f hf)

/-- Announcements are stored. -/
structure Sc1 (t : St) (n i : Nat) (S : Nat → Bool) : Prop where
  tn : t.n = n
  tm : t.m = 85
  fault : t.fault = none
  free : t.free = List.range n
  slot : ∀ k, (t.slot k).given = false ∧ (t.slot k).gen = 0
  steps : t.steps = 1 + i
  lo : ∀ c, 25 ≤ c → c < 34 → t.board c = zw
  hi : ∀ c, 34 + i ≤ c → c < 52 → t.board c = zw
  says : ∀ s, 1 ≤ s → s ≤ n → (S s = true ↔ ∃ c, 34 ≤ c ∧ c < 34 + i ∧ (t.board c).slot = (s : Int))
theorem sc1_new (n : Nat) : Sc1 ((St.new n 85).step ⟨2, 0, 0, ((24 : Nat) : Int), zw, nw 1⟩).1 n 0 (fun _ => false) := by
  rw [step_store 24 (by show 24 < 85; omega)]
  refine ⟨rfl, rfl, rfl, rfl, fun k => ⟨rfl, rfl⟩, rfl, fun c h1 h2 => ?_, fun c h1 h2 => ?_, fun s h1 h2 => ?_⟩
  · show (if c = 24 then _ else _) = _
    rw [if_neg (by omega)]; rfl
  · show (if c = 24 then _ else _) = _
    rw [if_neg (by omega)]; rfl
  · constructor
    · intro h; cases h
    · rintro ⟨c, h3, h4, _⟩; omega
/-- The word that is stored. -/
def kw (s : Int) : Wd := ⟨s, 1, 0, 0, false⟩
theorem sc1_step {t : St} {n i : Nat} {S : Nat → Bool} (h : Sc1 t n i S) (hi : i < 18) (s : Nat) (S' : Nat → Bool) (hS : ∀ k, 1 ≤ k → k ≤ n → S' k = (S k || decide (k = s))) :
    t.can ⟨2, 0, 0, ((34 + i : Nat) : Int), zw, kw s⟩ = true ∧ Sc1 (t.step ⟨2, 0, 0, ((34 + i : Nat) : Int), zw, kw s⟩).1 n (i + 1) S' := by
  refine ⟨can_board (.inr (.inl rfl)) _ (by rw [h.tm]; omega) _ _, ?_⟩
  rw [step_store (34 + i) (by rw [h.tm]; omega)]
  refine ⟨h.tn, h.tm, h.fault, h.free, h.slot, by show t.steps + 1 = _; rw [h.steps]; omega, fun c h1 h2 => ?_, fun c h1 h2 => ?_, fun k h1 h2 => ?_⟩
  · show (if c = 34 + i then _ else _) = _
    rw [if_neg (by omega)]; exact h.lo c h1 h2
  · show (if c = 34 + i then _ else _) = _
    rw [if_neg (by omega)]; exact h.hi c (by omega) h2
  · rw [hS k h1 h2, Bool.or_eq_true, h.says k h1 h2]
    constructor
    · rintro (⟨c, h3, h4, h5⟩ | e)
      · exact ⟨c, h3, by omega, by show (if c = 34 + i then _ else t.board c : Wd).slot = _; rw [if_neg (by omega)]; exact h5⟩
      · have e : k = s := by simpa using e
        subst e
        exact ⟨34 + i, by omega, by omega, by show (if 34 + i = 34 + i then _ else _ : Wd).slot = _; rw [if_pos rfl]; rfl⟩
    · rintro ⟨c, h3, h4, h5⟩
      have h5 : (if c = 34 + i then kw s else t.board c : Wd).slot = (k : Int) := h5
      by_cases e : c = 34 + i
      · rw [if_pos e] at h5
        have h5 : (s : Int) = k := h5
        exact .inr (by simp; omega)
      · rw [if_neg e] at h5
        exact .inl ⟨c, h3, by omega, h5⟩
/-- Slots are given, and retired. -/
structure Sc2 (t : St) (m : Rt) (n j : Nat) (D : Nat → Wd) : Prop where
  tn : t.n = n
  tm : t.m = 85
  fault : t.fault = none
  board : t.board = D
  free : t.free = (List.range n).drop j
  given : ∀ k, k < n → ((t.slot k).given = true ↔ k < j)
  gen : ∀ k, k < n → (t.slot k).gen = if k < j then 1 else 0
  steps : t.steps ≤ 20 + j
  idle : m.st.busy = false
  eng : m.eng = 2
  me : m.me = 0
  thr : m.thr = 3
  most : m.most = 64
  span : m.span = zs
  freed : m.freed = 0
  notes : m.notes = (List.range' 1 j).map nt
theorem sc2_first {t : St} {n i : Nat} {S : Nat → Bool} (h : Sc1 t n i S) (hi : i ≤ 18) : Sc2 t (Rt.new 2 0 3 64) n 0 t.board :=
  ⟨h.tn, h.tm, h.fault, rfl, by rw [h.free]; rfl, fun k _ => by rw [(h.slot k).1]; simp, fun k _ => by rw [(h.slot k).2]; simp, by rw [h.steps]; omega, rfl, rfl, rfl, rfl, rfl, rfl, rfl, rfl⟩
def acNew0 : Ac := ⟨4, 0, 0, 0, zw, zw⟩
def clRet (s : Nat) : Cl := { zc with kind := 10, old := ⟨(s : Int), 1, 0, 0, false⟩ }
def scStep (m : Rt) (s : Nat) : Rt := ({ m with notes := m.notes ++ [nt s] } : Rt).ok
theorem begins_ret {m : Rt} (s : Nat) (he : m.eng = 2) (hl : m.notes.length + 1 < m.most) : m.begins (clRet s) = scStep m s := by
  unfold Rt.begins Rt.goOn
  show ({ m with st := m.st.begin_ (clRet s) } : Rt).retire (zw, false) = _
  unfold Rt.retire
  rw [if_pos (show ({ m with st := m.st.begin_ (clRet s) } : Rt).st.done = 0 from rfl), if_neg (by show ¬ m.eng = 1; rw [he]; decide)]
  have hce : ({ m with st := m.st.begin_ (clRet s) } : Rt).countsEras = false := by unfold Rt.countsEras; show (decide (m.eng = 3) || decide (m.eng = 5)) = false; rw [he]; rfl
  rw [hce]
  rw [if_neg (by decide)]
  unfold Rt.born
  show (if m.eng = 2 then (({ m with st := m.st.begin_ (clRet s) } : Rt).see zw).noted (zw, false) else _) = _
  rw [if_pos he]
  unfold Rt.noted
  show (if ((({ m with st := m.st.begin_ (clRet s) } : Rt).see zw).setClock zw).note.countsEras = true then _ else ((({ m with st := m.st.begin_ (clRet s) } : Rt).see zw).setClock zw).note.asBelow) = _
  rw [show ((({ m with st := m.st.begin_ (clRet s) } : Rt).see zw).setClock zw).note.countsEras = false from hce, if_neg (by decide)]
  unfold Rt.asBelow
  have e : ((({ m with st := m.st.begin_ (clRet s) } : Rt).see zw).setClock zw).note.notes = m.notes ++ [nt s] := rfl
  exact (if_pos (show (m.notes ++ [nt s]).length < m.most from by simpa using hl)).trans rfl
theorem haz_ret {m : Rt} (s : Nat) (he : m.eng = 2) (hm : m.me < 6) (ht : 1 ≤ m.thr ∧ m.thr ≤ 6) (hs : m.span = zs) (hl : m.notes.length ≤ 200) (hf : m.freed ≤ 100000) : HazOk { m with st := m.st.begin_ (clRet s) } (zw, false) :=
  ⟨he, hm, ht, hs, hl, hf, .inr (.inr (.inr (.inr (.inr (.inr (.inl ⟨rfl, rfl, rfl⟩))))))⟩
theorem sc2_step {t : St} {m : Rt} {n j : Nat} {D : Nat → Wd} (h : Sc2 t m n j D) (hj : j < n) (hn : n ≤ 12) :
    t.can acNew0 = true ∧ m.begins (clRet (j + 1)) = scStep m (j + 1) ∧ HazOk { m with st := m.st.begin_ (clRet (j + 1)) } (zw, false) ∧ Sc2 (t.step acNew0).1 (scStep m (j + 1)) n (j + 1) D := by
  have hlen : m.notes.length = j := by rw [h.notes]; simp
  refine ⟨can_new _ _ rfl, begins_ret (j + 1) h.eng (by rw [hlen, h.most]; omega), haz_ret _ h.eng (by rw [h.me]; omega) (by rw [h.thr]; omega) h.span (by omega) (by rw [h.freed]; omega), ?_⟩
  rw [step_give (a := acNew0) rfl]
  have hfr : t.tick.free = j :: (List.range n).drop (j + 1) := by
    show t.free = _
    rw [h.free, List.drop_eq_getElem_cons (by simpa using hj)]
    simp
  unfold St.give
  rw [hfr]
  refine ⟨h.tn, h.tm, h.fault, h.board, rfl, fun k hk => ?_, fun k hk => ?_, by show t.steps + 1 ≤ _; have := h.steps; omega, rfl, h.eng, h.me, h.thr, h.most, h.span, h.freed, ?_⟩
  · show (if k = j then _ else t.slot k : Sl).given = true ↔ _
    by_cases e : k = j
    · rw [if_pos e]; simp; omega
    · rw [if_neg e, h.given k hk]; omega
  · show (if k = j then _ else t.slot k : Sl).gen = _
    by_cases e : k = j
    · rw [if_pos e]
      subst e
      show (t.slot k).gen + 1 = _
      rw [h.gen k hk, if_neg (by omega), if_pos (by omega)]
    · rw [if_neg e, h.gen k hk]
      by_cases e2 : k < j
      · rw [if_pos e2, if_pos (by omega)]
      · rw [if_neg e2, if_neg (by omega)]
  · show m.notes ++ [nt (j + 1)] = _
    rw [h.notes, List.range'_1_concat, List.map_append]
    simp [Nat.add_comm]
/-- A scan is under way, or over. -/
structure ScC (t : St) (m : Rt) (n : Nat) (D : Nat → Wd) (i : Nat) : Prop where
  tn : t.n = n
  tm : t.m = 85
  board : t.board = D
  fault : t.fault = none
  gen : ∀ k, k < n → (t.slot k).gen = 1
  given : ∀ k, k < n → ((t.slot k).given = true ↔ nt (k + 1) ∈ m.notes)
  steps : t.steps ≤ 100 + i
  eng : m.eng = 2
  me : m.me = 0
  thr : m.thr = 3
  span : m.span = zs
  freed : m.freed + m.notes.length = n
  nodup : m.notes.Nodup
  mem : ∀ a ∈ m.notes, ∃ s, 1 ≤ s ∧ s ≤ n ∧ a = nt s
  rest : m.notes.filter (kp D) = ((List.range' 1 n).map nt).filter (kp D)
def ScHear (m : Rt) (D : Nat → Wd) (i : Nat) : Prop :=
  m.st.busy = true ∧ m.st.call = cl 11 ∧ m.st.done = 7 ∧ i < 27 ∧ m.st.acc = ⟨1, 0, 0, ((25 + i : Nat) : Int), zw, zw⟩ ∧ m.st.said = ((List.range i).map fun c => D (25 + c)) ∧ m.freed = 0 ∧ m.st.pos = 0
def ScFree (m : Rt) (D : Nat → Wd) (i : Nat) : Prop :=
  m.st.busy = true ∧ m.st.call = cl 11 ∧ m.st.done = 8 ∧ i = 27 + m.freed ∧
    ∃ A x C, m.notes = A ++ x :: C ∧ m.st.pos = A.length ∧ (∀ a ∈ A, kp D a = true) ∧ kp D x = false ∧ m.st.free = C.filter (fun a => !kp D a) ∧ m.st.acc = ⟨5, 0, 0, 0, x.ref, zw⟩
def ScOver (m : Rt) (D : Nat → Wd) : Prop := m.st.busy = false ∧ ∀ a ∈ m.notes, kp D a = true
def Sc (t : St) (m : Rt) (n : Nat) (D : Nat → Wd) (i : Nat) : Prop := ScC t m n D i ∧ (ScHear m D i ∨ ScFree m D i ∨ ScOver m D)
theorem Sc.first {t : St} {m : Rt} {n : Nat} {D : Nat → Wd} (h : Sc2 t m n n D) (hn : n ≤ 12) :
    HazOk { m with st := m.st.begin_ (cl 11) } (zw, false) ∧ Sc t (m.begins (cl 11)) n D 0 := by
  have hlen : m.notes.length = n := by rw [h.notes]; simp
  have e : m.begins (cl 11) = (({ m with st := m.st.begin_ (cl 11) } : Rt).setClock zw).hear := by
    have e1 : m.begins (cl 11) = ({ m with st := m.st.begin_ (cl 11) } : Rt).scan (zw, false) := rfl
    rw [e1]
    exact scan0_eq (m := { m with st := m.st.begin_ (cl 11) }) (zw, false) h.eng rfl rfl (by show 1 ≤ m.thr; rw [h.thr]; omega)
  refine ⟨⟨h.eng, by show m.me < 6; rw [h.me]; omega, by show 1 ≤ m.thr ∧ m.thr ≤ 6; rw [h.thr]; omega, h.span, by show m.notes.length ≤ 200; omega, by show m.freed ≤ _; rw [h.freed]; omega, .inr (.inr (.inr (.inr (.inr (.inr (.inr (.inl ⟨rfl, rfl, rfl⟩)))))))⟩, ?_⟩
  rw [e]
  have hw : (({ m with st := m.st.begin_ (cl 11) } : Rt).setClock zw).saysWords = true := by unfold Rt.saysWords; show (decide (m.eng = 2) || _) = true; rw [h.eng]; rfl
  have eh : (({ m with st := m.st.begin_ (cl 11) } : Rt).setClock zw).hear = (({ m with st := m.st.begin_ (cl 11) } : Rt).setClock zw).load (0, 0, ((25 : Nat) : Int)) 7 := by
    unfold Rt.hear
    rw [hw, if_pos rfl]
    kernel_rfl
  rw [eh]
  refine ⟨⟨h.tn, h.tm, h.board, h.fault, fun k hk => by rw [h.gen k hk, if_pos hk], fun k hk => ?_, by have := h.steps; omega, h.eng, h.me, h.thr, h.span, by show m.freed + m.notes.length = n; rw [h.freed]; omega, ?_, fun a ha => ?_, ?_⟩, .inl ⟨rfl, rfl, rfl, by omega, rfl, rfl, h.freed, rfl⟩⟩
  · show _ ↔ nt (k + 1) ∈ m.notes
    rw [h.given k hk, h.notes]
    constructor
    · intro _; exact List.mem_map.2 ⟨k + 1, by simp [List.mem_range'_1]; omega, rfl⟩
    · intro _; exact hk
  · show m.notes.Nodup
    rw [h.notes]
    exact List.Pairwise.map nt (fun a b hab k => hab (nt_inj k)) (List.nodup_range' (s := 1) (n := n))
  · have ha : a ∈ m.notes := ha
    rw [h.notes] at ha
    obtain ⟨s, hs, rfl⟩ := List.mem_map.1 ha
    have := List.mem_range'_1.1 hs
    exact ⟨s, by omega, by omega, rfl⟩
  · show m.notes.filter _ = _
    rw [h.notes]
/-- A scan that releases the next one, or is over. -/
theorem sc_release {t : St} {m : Rt} {n : Nat} {D : Nat → Wd} {i : Nat} (h : ScC t m n D i) {A C : List Nt} (hb : m.st.busy = true) (hc : m.st.call = cl 11) (hi : i = 27 + m.freed) (hn : m.notes = A ++ C) (hpos : m.st.pos = A.length) (hA : ∀ a ∈ A, kp D a = true) (hf : m.st.free = C.filter (fun a => !kp D a)) : Sc t m.release n D i := by
  rcases release_go (fun a => !kp D a) hn hpos hf with ⟨e, hC⟩ | ⟨A', x, C', e1, hx, hA', e⟩
  · rw [e]
    refine ⟨⟨h.tn, h.tm, h.board, h.fault, h.gen, h.given, h.steps, h.eng, h.me, h.thr, h.span, h.freed, h.nodup, h.mem, h.rest⟩, .inr (.inr ⟨rfl, fun a ha => ?_⟩)⟩
    have ha : a ∈ m.notes := ha
    rw [hn] at ha
    rcases List.mem_append.1 ha with ha | ha
    · exact hA a ha
    · simpa using hC a ha
  · rw [e]
    refine ⟨⟨h.tn, h.tm, h.board, h.fault, h.gen, h.given, h.steps, h.eng, h.me, h.thr, h.span, h.freed, h.nodup, h.mem, h.rest⟩, .inr (.inl ⟨hb, hc, rfl, hi, A ++ A', x, C', ?_, ?_, fun a ha => ?_, by simpa using hx, rfl, rfl⟩)⟩
    · show m.notes = _
      rw [hn, e1, List.append_assoc]
    · show A.length + A'.length = _
      simp
    · rcases List.mem_append.1 ha with ha | ha
      · exact hA a ha
      · simpa using hA' a ha
theorem Sc.step {t : St} {m : Rt} {n : Nat} {D : Nat → Wd} {i : Nat} (h : Sc t m n D i) (hn : n ≤ 12) (hb : m.st.busy = true) :
    t.can m.st.acc = true ∧ HazOk m (t.step m.st.acc).2 ∧ Sc (t.step m.st.acc).1 (m.goOn (t.step m.st.acc).2) n D (i + 1) ∧ i ≤ 100 := by
  obtain ⟨h, ha⟩ := h
  have hlen : m.notes.length ≤ 200 := by have := h.freed; omega
  have hfr : m.freed ≤ 12 := by have := h.freed; omega
  have hme : m.me < 6 := by rw [h.me]; omega
  have hthr : 1 ≤ m.thr ∧ m.thr ≤ 6 := by rw [h.thr]; omega
  rcases ha with ⟨_, hc, hd, hi, hac, hsa, hf0, hp0⟩ | ⟨_, hc, hd, hi, A, x, C, hN, hpos, hA, hx, hf, hac⟩ | ⟨hb', _⟩
  · rw [hac]
    have es : t.step ⟨1, 0, 0, ((25 + i : Nat) : Int), zw, zw⟩ = (t.tick, D (25 + i), true) := by rw [step_load _ (by rw [h.tm]; omega), h.board]
    have hsl : m.st.said.length = i := by rw [hsa]; simp
    have hk : m.st.call.kind = 11 := by rw [hc]; rfl
    have hsw : m.saysWords = true := by unfold Rt.saysWords; rw [h.eng]; rfl
    have hss : m.saysSpan = false := by unfold Rt.saysSpan; rw [h.eng]; rfl
    have hsaid : (setSaid m (D (25 + i))).st.said = ((List.range (i + 1)).map fun c => D (25 + c)) := by
      show m.st.said ++ [D (25 + i)] = _
      rw [hsa, List.range_succ, List.map_append]; rfl
    have hlen2 : (setSaid m (D (25 + i))).st.said.length = i + 1 := by rw [hsaid]; simp
    have hcore : ScC t.tick (setSaid m (D (25 + i))) n D (i + 1) := ⟨h.tn, h.tm, h.board, h.fault, h.gen, h.given, by show t.steps + 1 ≤ _; have := h.steps; omega, h.eng, h.me, h.thr, h.span, h.freed, h.nodup, h.mem, h.rest⟩
    have e1 : m.goOn (D (25 + i), true) = if (setSaid m (D (25 + i))).more = true then (setSaid m (D (25 + i))).hear else if (setSaid m (D (25 + i))).eng = 4 ∧ mayTurn (setSaid m (D (25 + i))).st.clock.num (setSaid m (D (25 + i))).st.said then (setSaid m (D (25 + i))).turn else (setSaid m (D (25 + i))).heardAll (D (25 + i), true) := by
      have : m.goOn (D (25 + i), true) = m.scan (D (25 + i), true) := by simp [Rt.goOn, hk]
      rw [this]
      unfold Rt.scan
      rw [if_neg (by rw [hd]; decide), if_neg (by rw [hd]; decide), if_pos hd]
      rfl
    have hmore : (setSaid m (D (25 + i))).more = decide (i + 1 < 27) := by
      unfold Rt.more
      rw [show (setSaid m (D (25 + i))).saysWords = true from hsw, show (setSaid m (D (25 + i))).saysSpan = false from hss, hlen2, show (setSaid m (D (25 + i))).thr = 3 from h.thr]
      simp
    refine ⟨can_board (.inl rfl) _ (by rw [h.tm]; omega) _ _, ?_, ?_, by omega⟩
    · rw [es]
      refine ⟨h.eng, hme, hthr, h.span, hlen, by omega, .inr (.inr (.inr (.inr (.inr (.inr (.inr (.inr ?_)))))))⟩
      by_cases hlt : i + 1 < 27
      · exact .inl ⟨hk, hd, by rw [hsl, h.thr]; omega⟩
      · refine .inr (.inl ⟨hk, hd, by rw [hsl, h.thr]; omega, ?_⟩)
        refine freeOk_of (fun a => !((setSaid m (D (25 + i))).keeps (D (25 + i)).num a)) ?_
        show (setSaid m (D (25 + i))).loose _ = _
        unfold Rt.loose
        show m.notes.filter _ = (m.notes.drop m.st.pos).filter _
        rw [hp0]; rfl
    · rw [es]
      show Sc t.tick (m.goOn (D (25 + i), true)) n D (i + 1)
      rw [e1, hmore]
      by_cases hlt : i + 1 < 27
      · rw [if_pos (by simpa using hlt)]
        have eh : (setSaid m (D (25 + i))).hear = (setSaid m (D (25 + i))).load (0, 0, ((25 + (i + 1) : Nat) : Int)) 7 := by
          unfold Rt.hear
          rw [show (setSaid m (D (25 + i))).saysWords = true from hsw, if_pos rfl, hlen2]
          congr 3
          unfold keepAt
          omega
        rw [eh]
        exact ⟨⟨hcore.tn, hcore.tm, hcore.board, hcore.fault, hcore.gen, hcore.given, hcore.steps, hcore.eng, hcore.me, hcore.thr, hcore.span, hcore.freed, hcore.nodup, hcore.mem, hcore.rest⟩, .inl ⟨hb, hc, rfl, hlt, rfl, hsaid, hf0, hp0⟩⟩
      · rw [if_neg (by simpa using hlt), if_neg (by intro k; have k1 : m.eng = 4 := k.1; rw [h.eng] at k1; exact absurd k1 (by decide))]
        have hi26 : i = 26 := by omega
        unfold Rt.heardAll
        rw [if_neg (by intro k; have k1 : m.eng = 4 := k; rw [h.eng] at k1; exact absurd k1 (by decide))]
        unfold Rt.free
        have hlo : (setSaid m (D (25 + i))).loose (D (25 + i)).num = m.notes.filter (fun a => !kp D a) := by
          unfold Rt.loose
          show m.notes.filter _ = _
          congr 1
          funext a
          congr 1
          unfold Rt.keeps
          rw [if_pos (show (setSaid m (D (25 + i))).eng = 2 from h.eng), hsaid, List.any_map, hi26]
          rfl
        rw [hlo]
        refine sc_release (m := { setSaid m (D (25 + i)) with st := { (setSaid m (D (25 + i))).st with free := m.notes.filter (fun a => !kp D a) } }) (A := []) (C := m.notes) ⟨hcore.tn, hcore.tm, hcore.board, hcore.fault, hcore.gen, hcore.given, hcore.steps, hcore.eng, hcore.me, hcore.thr, hcore.span, hcore.freed, hcore.nodup, hcore.mem, hcore.rest⟩ hb hc (by show i + 1 = 27 + m.freed; rw [hf0]; omega) rfl hp0 (fun a ha => by cases ha) rfl
  · rw [hac]
    have hxm : x ∈ m.notes := by rw [hN]; simp
    obtain ⟨s, hs1, hs2, rfl⟩ := h.mem x hxm
    have hk : m.st.call.kind = 11 := by rw [hc]; rfl
    have hg : (t.slot (s - 1)).given = true := (h.given (s - 1) (by omega)).2 (by rw [show s - 1 + 1 = s by omega]; exact hxm)
    have es : t.step ⟨5, 0, 0, 0, (nt s).ref, zw⟩ = (t.tick.take (s - 1), zw, true) :=
      step_take (a := ⟨5, 0, 0, 0, (nt s).ref, zw⟩) rfl (s - 1) (by rw [h.tn]; omega) (by show (s : Int) = _; omega) hg (by rw [h.gen _ (by omega)]; rfl)
    have hst : m.strike true = { m with notes := A ++ C, freed := m.freed + 1 } := by
      unfold Rt.strike
      rw [if_pos rfl, hpos, hN, List.eraseIdx_append_of_length_le (Nat.le_refl _)]
      simp
    have hnd := h.nodup
    rw [hN] at hnd
    have hxA : nt s ∉ A ∧ nt s ∉ C := by
      have h1 := List.nodup_append.1 hnd
      refine ⟨fun k => h1.2.2 _ k _ (List.mem_cons_self ..) rfl, (List.nodup_cons.1 h1.2.1).1⟩
    have e1 : m.goOn (zw, true) = (m.strike true).release := by
      have : m.goOn (zw, true) = m.scan (zw, true) := by simp [Rt.goOn, hk]
      rw [this]
      unfold Rt.scan
      rw [if_neg (by rw [hd]; decide), if_neg (by rw [hd]; decide), if_neg (by rw [hd]; decide), if_neg (by rw [hd]; decide), if_neg (by rw [hd]; decide), if_pos hd]
    refine ⟨can_free t _ rfl (by rw [h.tn]; show 1 ≤ (s : Int) ∧ (s : Int) ≤ n; omega), ?_, ?_, by omega⟩
    · rw [es]
      refine ⟨h.eng, hme, hthr, h.span, hlen, by omega, .inr (.inr (.inr (.inr (.inr (.inr (.inr (.inr (.inr (.inr ⟨hk, hd, ?_, ?_⟩)))))))))⟩
      · rw [hpos, hN]; simp
      · refine freeOk_of (fun a => !kp D a) ?_
        rw [hst]
        show m.st.free = ((A ++ C).drop m.st.pos).filter _
        rw [hpos, List.drop_left, hf]
    · rw [es]
      show Sc (t.tick.take (s - 1)) (m.goOn (zw, true)) n D (i + 1)
      rw [e1, hst]
      refine sc_release (m := { m with notes := A ++ C, freed := m.freed + 1 }) (A := A) (C := C) ⟨h.tn, h.tm, h.board, h.fault, fun k hk => ?_, fun k hk => ?_, by show t.steps + 1 ≤ _; have := h.steps; omega, h.eng, h.me, h.thr, h.span, ?_, ?_, fun a ha => ?_, ?_⟩ hb hc (by show i + 1 = 27 + (m.freed + 1); omega) rfl hpos hA hf
      · show (if k = s - 1 then _ else t.slot k : Sl).gen = 1
        by_cases e : k = s - 1
        · rw [if_pos e]; exact h.gen (s - 1) (by omega)
        · rw [if_neg e]; exact h.gen k hk
      · show (if k = s - 1 then _ else t.slot k : Sl).given = true ↔ nt (k + 1) ∈ A ++ C
        by_cases e : k = s - 1
        · rw [if_pos e]
          have : nt (k + 1) = nt s := by rw [e, show s - 1 + 1 = s by omega]
          rw [this, List.mem_append]
          simp [hxA.1, hxA.2]
        · rw [if_neg e, h.given k hk, hN]
          have hne : nt (k + 1) ≠ nt s := fun q => e (by have := nt_inj q; omega)
          simp [hne]
      · have := h.freed
        rw [hN] at this
        show m.freed + 1 + (A ++ C).length = n
        simp at this ⊢
        omega
      · show (A ++ C).Nodup
        exact hnd.sublist (List.Sublist.append (List.Sublist.refl A) (List.sublist_cons_self _ C))
      · refine h.mem a ?_
        have ha : a ∈ A ++ C := ha
        rw [hN]
        rcases List.mem_append.1 ha with ha | ha
        · simp [ha]
        · simp [ha]
      · have := h.rest
        rw [hN, List.filter_append, List.filter_cons_of_neg (by rw [hx]; decide), ← List.filter_append] at this
        exact this
  · rw [hb] at hb'; cases hb'
/-- What is noted in the end. -/
theorem Sc.done {t : St} {m : Rt} {n : Nat} {D : Nat → Wd} {i : Nat} (h : Sc t m n D i) (hb : m.st.busy = false) : ScC t m n D i ∧ m.notes = ((List.range' 1 n).map nt).filter (kp D) := by
  obtain ⟨h, ha⟩ := h
  rcases ha with ⟨hb', _⟩ | ⟨hb', _⟩ | ⟨_, hA⟩
  · rw [hb] at hb'; cases hb'
  · rw [hb] at hb'; cases hb'
  · refine ⟨h, ?_⟩
    rw [← h.rest]
    exact (List.filter_eq_self.2 hA).symm
theorem kp_says {t : St} {n i : Nat} {S : Nat → Bool} (h : Sc1 t n i S) (hi : i ≤ 18) (s : Nat) (h1 : 1 ≤ s) (h2 : s ≤ n) : kp t.board (nt s) = S s := by
  have key : kp t.board (nt s) = true ↔ S s = true := by
    rw [h.says s h1 h2]
    unfold kp
    rw [List.any_eq_true]
    constructor
    · rintro ⟨c, hc, hk⟩
      have hc : c < 27 := by simpa using hc
      have hk : (t.board (25 + c)).slot = (s : Int) := of_decide_eq_true hk
      by_cases h3 : 25 + c < 34
      · rw [h.lo _ (by omega) h3] at hk
        have hk : (0 : Int) = s := hk
        omega
      · by_cases h4 : 34 + i ≤ 25 + c
        · rw [h.hi _ h4 (by omega)] at hk
          have hk : (0 : Int) = s := hk
          omega
        · exact ⟨25 + c, by omega, by omega, hk⟩
    · rintro ⟨c, h3, h4, h5⟩
      exact ⟨c - 25, by simp; omega, by rw [show 25 + (c - 25) = c by omega]; simp [slotK, nt, h5]⟩
  cases hk : kp t.board (nt s) <;> cases hs : S s <;> simp_all
end Go.Proofs.YtjilhncnbkaebaaGreatDoor
