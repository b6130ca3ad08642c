/- Plain mathematics of words and their texts: decimal numerals, cutting at points, one text a word. -/
import Derived.Lib.AtoiTie
import Derived.Lib.SplitLaws
import Derived.Lib.ItoaMem
import Derived.Lib.ItoaLen
import Derived.Lib.Hide
namespace Go.Proofs.YtjkgglihpkkieaaDoor
open Go.Lib

/-! ### words and their texts, as lists of bytes -/
structure Wd where
  slot : Int
  gen : Int
  tag : Int
  num : Int
  mark : Bool
instance (a b : Wd) : Decidable (a = b) := decidable_of_iff (a.slot = b.slot ∧ a.gen = b.gen ∧ a.tag = b.tag ∧ a.num = b.num ∧ a.mark = b.mark) (by cases a; cases b; simp)
def Wd.Good (a : Wd) : Prop := (0 ≤ a.slot ∧ a.slot ≤ 1024) ∧ (0 ≤ a.gen ∧ a.gen ≤ 1099511627776) ∧ (0 ≤ a.tag ∧ a.tag ≤ 1099511627776) ∧ (-1099511627776 ≤ a.num ∧ a.num ≤ 1099511627776) ∧ (a.slot = 0 → a.gen = 0)
instance (a : Wd) : Decidable a.Good := by unfold Wd.Good; infer_instance
def txt (a : Wd) : List UInt8 := (if a.mark then 109 else 110) :: 46 :: (itoa a.slot ++ 46 :: (itoa a.gen ++ 46 :: (itoa a.tag ++ 46 :: itoa a.num)))

/-! ### digits -/
theorem digitVal_ofNat (d : Nat) (h : d < 10) : digitVal (UInt8.ofNat (48 + d)) = some d := by
  have : (UInt8.ofNat (48 + d)).toNat = 48 + d := by simp [UInt8.toNat_ofNat']; omega
  unfold digitVal
  rw [this, if_pos (by omega)]
  congr 1; omega
theorem decFrom_append (l : List UInt8) : ∀ (acc n : Nat) (r : List UInt8), decFrom acc l = some n → decFrom acc (l ++ r) = decFrom n r := by
  induction l with
  | nil => intro acc n r h; simp only [decFrom, Option.some.injEq] at h; subst h; rfl
  | cons b t ih =>
    intro acc n r h
    simp only [decFrom, List.cons_append] at h ⊢
    cases hd : digitVal b with
    | none => simp [hd] at h
    | some d => simp only [hd] at h ⊢; exact ih _ _ _ h
theorem decFrom_dec (u : Nat) : decFrom 0 (decDigits u) = some u := by
  induction u using Nat.strongRecOn with
  | _ u ih =>
    by_cases h : u < 10
    · rw [decDigits_one h]
      simp only [decFrom, digitVal_ofNat u h]
      simp
    · rw [decDigits, dif_neg h, decFrom_append _ _ _ _ (ih (u / 10) (by omega))]
      simp only [decFrom, digitVal_ofNat (u % 10) (by omega)]
      congr 1; omega
theorem dec_digit (u : Nat) : ∀ b ∈ decDigits u, ∃ d, digitVal b = some d := by
  intro b hb
  obtain ⟨k, hk, e⟩ := List.getElem_of_mem hb
  exact digit_of_decFrom _ 0 u (decFrom_dec u) k b (by rw [← e]; exact List.getElem?_eq_getElem hk)
theorem dec_ne_nil (u : Nat) : decDigits u ≠ [] := by
  intro h
  have := decDigits_length u
  rw [h] at this
  have := nDigits_pos u
  simp at *; omega
theorem dec_byte (u : Nat) : ∀ b ∈ decDigits u, 48 ≤ b.toNat ∧ b.toNat ≤ 57 := by
  intro b hb
  obtain ⟨d, hd⟩ := dec_digit u b hb
  have := digitVal_eq hd
  exact ⟨this.1, this.2.1⟩
theorem decNat_dec (u : Nat) : decNat (decDigits u) = some u := by
  unfold decNat
  rw [if_neg (by simpa using dec_ne_nil u)]
  exact decFrom_dec u
theorem atoi_itoa (n : Int) : atoi (itoa n) = some n := by
  by_cases h : n < 0
  · obtain ⟨u, rfl⟩ : ∃ u : Nat, n = -(u : Int) := ⟨n.natAbs, by omega⟩
    rw [itoa_neg u (by omega)]
    simp [atoi, decNat_dec]
  · obtain ⟨u, rfl⟩ : ∃ u : Nat, n = (u : Int) := ⟨n.toNat, by omega⟩
    rw [itoa_nonneg]
    have hb := dec_byte u
    have hn := decNat_dec u
    have hne := dec_ne_nil u
    cases hc : decDigits u with
    | nil => exact absurd hc hne
    | cons b r =>
      rw [hc] at hb hn
      have hb := hb b (List.mem_cons_self ..)
      have h1 : (b == 45) = false := by rw [beq_eq_false_iff_ne]; intro e; subst e; simp at hb
      have h2 : (b == 43) = false := by rw [beq_eq_false_iff_ne]; intro e; subst e; simp at hb
      simp [atoi, h1, h2, hn]
theorem nDigits_le (k u : Nat) (h : u < 10 ^ k) (hk : 1 ≤ k) : nDigits u ≤ k := by
  induction k generalizing u with
  | zero => omega
  | succ k ih =>
    by_cases h10 : u < 10
    · rw [nDigits_small h10]; omega
    · rw [nDigits_big h10]
      rcases Nat.eq_zero_or_pos k with rfl | hk'
      · simp at h; omega
      · have := ih (u / 10) (by rw [Nat.pow_succ] at h; omega) hk'
        omega
theorem dec_len (u : Nat) (h : u ≤ 1099511627776) : (decDigits u).length ≤ 13 := by
  rw [decDigits_length]; exact nDigits_le 13 u (by omega) (by omega)
theorem itoa_len (n : Int) (h1 : -1099511627776 ≤ n) (h2 : n ≤ 1099511627776) : (itoa n).length ≤ 14 := by
  unfold itoa
  split
  · have := dec_len n.natAbs (by omega); simp; omega
  · have := dec_len n.toNat (by omega); omega
theorem atoiAll_itoa (n : Int) (h1 : -1099511627776 ≤ n) (h2 : n ≤ 1099511627776) : atoiAll (itoa n) = .ok n := by
  rw [atoiAll_short _ (by have := itoa_len n h1 h2; omega), atoi_itoa]; rfl
theorem itoa_byte (n : Int) : ∀ b ∈ itoa n, b ≠ 46 := by
  intro b hb e
  subst e
  unfold itoa at hb
  split at hb
  · rcases List.mem_cons.1 hb with h | h
    · exact absurd h (by decide)
    · have := dec_byte _ _ h; simp at this
  · have := dec_byte _ _ hb; simp at this
theorem itoa_inj {a b : Int} (h : itoa a = itoa b) : a = b := by
  have h1 := atoi_itoa a
  rw [h, atoi_itoa b] at h1
  exact (Option.some.inj h1).symm

/-! ### cutting at the points -/
theorem no_occ {p r : List UInt8} (h : ∀ b ∈ p, b ≠ 46) : ∀ j, j < p.length → occAt (p ++ r) [46] j = false := by
  intro j hj
  have : (p ++ r).drop j = p[j] :: ((p ++ r).drop (j + 1)) := by
    rw [List.drop_eq_getElem_cons (by simp; omega)]
    congr 1
    exact List.getElem_append_left hj
  unfold occAt
  rw [this]
  have hne := h _ (List.getElem_mem hj)
  simp [List.isPrefixOf, Ne.symm hne]
theorem index_at {p r : List UInt8} (h : ∀ b ∈ p, b ≠ 46) : index (p ++ 46 :: r) [46] = (p.length : Nat) := by
  refine index_first (by simp) ?_ (no_occ h)
  unfold occAt
  simp [List.isPrefixOf]
theorem split_last {p : List UInt8} (h : ∀ b ∈ p, b ≠ 46) : split p [46] = [p] := by
  have : count p [46] = 0 := by rw [count_one]; exact List.count_eq_zero.2 fun hm => h _ hm rfl
  unfold split
  rw [this]; rfl
theorem split_more {p r : List UInt8} (h : ∀ b ∈ p, b ≠ 46) : split (p ++ 46 :: r) [46] = p :: split r [46] := by
  have hi := index_at (r := r) h
  have hc : count (p ++ 46 :: r) [46] = count r [46] + 1 := by
    rw [count_hit (by simp) hi]
    have : (p ++ 46 :: r).drop (p.length + 1) = r := by simp
    show 1 + count ((p ++ 46 :: r).drop (p.length + 1)) [46] = _
    rw [this]; omega
  unfold split
  rw [hc]
  rw [splitK, if_neg (by rw [hi, beq_iff_eq]; omega), hi]
  simp
theorem split_txt (a : Wd) : split (txt a) [46] = [[if a.mark then 109 else 110], itoa a.slot, itoa a.gen, itoa a.tag, itoa a.num] := by
  have e : txt a = [if a.mark then 109 else 110] ++ 46 :: (itoa a.slot ++ 46 :: (itoa a.gen ++ 46 :: (itoa a.tag ++ 46 :: itoa a.num))) := rfl
  rw [e, split_more (by intro b hb; rw [List.mem_singleton] at hb; subst hb; split <;> decide), split_more (itoa_byte _), split_more (itoa_byte _), split_more (itoa_byte _), split_last (itoa_byte _)]
theorem txt_inj {a b : Wd} (h : txt a = txt b) : a = b := by
  have h1 := split_txt a
  rw [h, split_txt b] at h1
  simp only [List.cons.injEq, and_true] at h1
  obtain ⟨h0, h1, h2, h3, h4⟩ := h1
  cases a; cases b
  have := itoa_inj h1; have := itoa_inj h2; have := itoa_inj h3; have := itoa_inj h4
  simp only at *
  subst_vars
  congr 1
  rename_i m1 _ _ _ _ m2
  clear h1 h2 h3 h4
  revert h0
  cases m1 <;> cases m2 <;> simp
theorem itoa_len_pos (n : Int) (k : Nat) (hk : 1 ≤ k) (h1 : 0 ≤ n) (h2 : n.toNat < 10 ^ k) : (itoa n).length ≤ k := by
  unfold itoa
  rw [if_neg (by omega), decDigits_length]
  exact nDigits_le k _ h2 hk
theorem txt_len {a : Wd} (h : a.Good) : (txt a).length ≤ 49 := by
  obtain ⟨h1, h2, h3, h4, _⟩ := h
  have := itoa_len_pos a.slot 4 (by omega) (by omega) (by omega)
  have := itoa_len_pos a.gen 13 (by omega) (by omega) (by omega)
  have := itoa_len_pos a.tag 13 (by omega) (by omega) (by omega)
  have := itoa_len a.num (by omega) (by omega)
  simp [txt]; omega

/-! ### the document's own reading: field by field -/
/-- Up to so many digits. -/
def scan : Nat → Nat → List UInt8 → Nat × List UInt8
  | 0, acc, l => (acc, l)
  | _ + 1, acc, [] => (acc, [])
  | f + 1, acc, b :: r => if 48 ≤ b.toNat ∧ b.toNat ≤ 57 then scan f (acc * 10 + (b.toNat - 48)) r else (acc, b :: r)
def piece : List UInt8 → Option (Int × List UInt8)
  | [] => none
  | c :: r => if c = 46 then (match r with
      | 45 :: r' => some (-((scan 14 0 r').1 : Int), (scan 14 0 r').2)
      | r' => some (((scan 14 0 r').1 : Int), (scan 14 0 r').2)) else none
theorem scan_dec : ∀ (l : List UInt8) (f acc n : Nat) (r : List UInt8), decFrom acc l = some n → l.length ≤ f → (∀ c t, r = c :: t → ¬ (48 ≤ c.toNat ∧ c.toNat ≤ 57)) → scan f acc (l ++ r) = (n, r)
  | [], f, acc, n, r, h, _, hr => by
    simp only [decFrom, Option.some.injEq] at h
    subst h
    cases f with
    | zero => rfl
    | succ f =>
      cases r with
      | nil => rfl
      | cons c t => simp only [List.nil_append, scan]; rw [if_neg (hr c t rfl)]
  | b :: t, 0, acc, n, r, h, hl, hr => by simp at hl
  | b :: t, f + 1, acc, n, r, h, hl, hr => by
    simp only [decFrom] at h
    cases hd : digitVal b with
    | none => simp [hd] at h
    | some d =>
      simp only [hd] at h
      have := digitVal_eq hd
      simp only [List.cons_append, scan]
      rw [if_pos ⟨this.1, this.2.1⟩, ← this.2.2]
      exact scan_dec t f _ n r h (by simp at hl; omega) hr
theorem piece_itoa (n : Int) (h1 : -1099511627776 ≤ n) (h2 : n ≤ 1099511627776) (r : List UInt8) (hr : ∀ c t, r = c :: t → ¬ (48 ≤ c.toNat ∧ c.toNat ≤ 57)) : piece (46 :: (itoa n ++ r)) = some (n, r) := by
  unfold itoa
  split
  · rename_i h
    have hs := scan_dec (decDigits n.natAbs) 14 0 n.natAbs r (decFrom_dec _) (by have := dec_len n.natAbs (by omega); omega) hr
    simp only [List.cons_append, piece, hs, if_true]
    congr 2; omega
  · have hs := scan_dec (decDigits n.toNat) 14 0 n.toNat r (decFrom_dec _) (by have := dec_len n.toNat (by omega); omega) hr
    have hb := dec_byte n.toNat
    have hne := dec_ne_nil n.toNat
    cases hc : decDigits n.toNat with
    | nil => exact absurd hc hne
    | cons b t =>
      rw [hc] at hs hb
      have hb := hb b (List.mem_cons_self ..)
      have h45 : b ≠ 45 := by intro e; subst e; simp at hb
      simp only [List.cons_append] at hs ⊢
      have e : piece (46 :: b :: (t ++ r)) = some (((scan 14 0 (b :: (t ++ r))).1 : Int), (scan 14 0 (b :: (t ++ r))).2) := by
        simp only [piece, if_true]
        split
        · rename_i heq; exact absurd (List.cons.inj heq).1 h45
        · rfl
      rw [e, hs]
      congr 2; omega
theorem pt (r : List UInt8) : ∀ c t, (46 :: r : List UInt8) = c :: t → ¬ (48 ≤ c.toNat ∧ c.toNat ≤ 57) := by
  intro c t h
  have := (List.cons.inj h).1
  subst this
  simp
end Go.Proofs.YtjkgglihpkkieaaDoor
