/- Plain mathematics of the reference's reading, field by field. -/
import Derived.Test.YtjkgglihpkkieaaDoorV
namespace Go.Proofs.YtjkgglihpkkieaaDoor
open Go.Lib

/-! ### the document's own reading, round by round: lists of bytes -/
def fld (d : Wd) (k : Nat) : Int := match k with
  | 0 => d.slot
  | 1 => d.gen
  | 2 => d.tag
  | _ => d.num
/-- What is left of a word's text ahead of its field k. -/
def tlk (d : Wd) (k : Nat) : List UInt8 := match k with
  | 0 => 46 :: (itoa d.slot ++ 46 :: (itoa d.gen ++ 46 :: (itoa d.tag ++ 46 :: itoa d.num)))
  | 1 => 46 :: (itoa d.gen ++ 46 :: (itoa d.tag ++ 46 :: itoa d.num))
  | 2 => 46 :: (itoa d.tag ++ 46 :: itoa d.num)
  | 3 => 46 :: itoa d.num
  | _ => []
theorem tl_step (d : Wd) (k : Nat) (hk : k < 4) : tlk d k = 46 :: (itoa (fld d k) ++ tlk d (k + 1)) := by
  have : k = 0 ∨ k = 1 ∨ k = 2 ∨ k = 3 := by omega
  rcases this with rfl | rfl | rfl | rfl <;> simp [tlk, fld]
theorem tl_head (d : Wd) (k : Nat) : ∀ c t, tlk d k = c :: t → ¬ (48 ≤ c.toNat ∧ c.toNat ≤ 57) := by
  intro c t h
  have key : ∀ r, (46 :: r : List UInt8) = c :: t → ¬ (48 ≤ c.toNat ∧ c.toNat ≤ 57) := fun r => pt r c t
  match k with
  | 0 => exact key _ h
  | 1 => exact key _ h
  | 2 => exact key _ h
  | 3 => exact key _ h
  | k + 4 => cases h
theorem fld_bd {d : Wd} (h : d.Good) (k : Nat) : -1099511627776 ≤ fld d k ∧ fld d k ≤ 1099511627776 := by
  obtain ⟨h1, h2, h3, h4, _⟩ := h
  match k with
  | 0 => simp only [fld]; omega
  | 1 => simp only [fld]; omega
  | 2 => simp only [fld]; omega
  | k + 3 => simp only [fld]; omega
theorem round_minus {x : Int} {r l' rest : List UInt8} {n : Nat} (h1 : -1099511627776 ≤ x) (h2 : x ≤ 1099511627776) (hr : ∀ c t, r = c :: t → ¬ (48 ≤ c.toNat ∧ c.toNat ≤ 57))
    (hl : itoa x ++ r = 45 :: l') (hs : scan 14 0 l' = (n, rest)) : -(n : Int) = x ∧ rest = r := by
  by_cases hx : x < 0
  · have e : itoa x = 45 :: decDigits x.natAbs := by unfold itoa; rw [if_pos hx]
    rw [e, List.cons_append] at hl
    have := (List.cons.inj hl).2
    rw [← this, scan_dec (decDigits x.natAbs) 14 0 x.natAbs r (decFrom_dec _) (by have := dec_len x.natAbs (by omega); omega) hr] at hs
    injection hs with e1 e2
    exact ⟨by omega, e2.symm⟩
  · have e : itoa x = decDigits x.toNat := by unfold itoa; rw [if_neg hx]
    have hne := dec_ne_nil x.toNat
    have hb := dec_byte x.toNat
    rw [e] at hl
    cases hc : decDigits x.toNat with
    | nil => exact absurd hc hne
    | cons b t =>
      rw [hc] at hl hb
      have := (List.cons.inj hl).1
      have hb := hb b (List.mem_cons_self ..)
      rw [this] at hb
      simp at hb
theorem round_plain {x : Int} {r l rest : List UInt8} {n : Nat} (h1 : -1099511627776 ≤ x) (h2 : x ≤ 1099511627776) (hr : ∀ c t, r = c :: t → ¬ (48 ≤ c.toNat ∧ c.toNat ≤ 57))
    (hl : itoa x ++ r = l) (h45 : ∀ c t, l = c :: t → c ≠ 45) (hs : scan 14 0 l = (n, rest)) : (n : Int) = x ∧ rest = r := by
  by_cases hx : x < 0
  · have e : itoa x = 45 :: decDigits x.natAbs := by unfold itoa; rw [if_pos hx]
    rw [e, List.cons_append] at hl
    exact absurd rfl (h45 _ _ hl.symm)
  · have e : itoa x = decDigits x.toNat := by unfold itoa; rw [if_neg hx]
    rw [e] at hl
    rw [← hl, scan_dec (decDigits x.toNat) 14 0 x.toNat r (decFrom_dec _) (by have := dec_len x.toNat (by omega); omega) hr] at hs
    injection hs with e1 e2
    exact ⟨by omega, e2.symm⟩

/-! one step of the loop over digits -/
theorem scan_stop (f n : Nat) (b : UInt8) (r : List UInt8) (h : ¬ (48 ≤ b.toNat ∧ b.toNat ≤ 57)) : scan f n (b :: r) = (n, b :: r) := by
  cases f with
  | zero => rfl
  | succ f => simp only [scan, if_neg h]
theorem scan_end (f n : Nat) : scan f n [] = (n, []) := by cases f <;> rfl
theorem scan_more (f n : Nat) (b : UInt8) (r : List UInt8) (h1 : 48 ≤ b.toNat) (h2 : b.toNat ≤ 57) : scan (f + 1) n (b :: r) = scan f (n * 10 + (b.toNat - 48)) r := by
  simp only [scan, if_pos (And.intro h1 h2)]
theorem pow_step {n j d : Nat} (h : n < 10 ^ j) (hd : d ≤ 9) : n * 10 + d < 10 ^ (j + 1) := by
  rw [Nat.pow_succ]; omega
theorem pow_bd {n j : Nat} (h : n < 10 ^ j) (hj : j ≤ 14) : n < 100000000000000 := by
  have := Nat.pow_le_pow_right (n := 10) (by decide) hj
  have e : (10 : Nat) ^ 14 = 100000000000000 := by decide
  omega
theorem pow_bd13 {n j : Nat} (h : n < 10 ^ j) (hj : j ≤ 13) : n < 10000000000000 := by
  have := Nat.pow_le_pow_right (n := 10) (by decide) hj
  have e : (10 : Nat) ^ 13 = 10000000000000 := by decide
  omega
theorem drop_at (s : ByteArray) (p : Nat) (h : p < s.size) : s.data.toList.drop p = s[p] :: s.data.toList.drop (p + 1) := by
  rw [List.drop_eq_getElem_cons (by simpa using h)]; rfl
theorem drop_end (s : ByteArray) (p : Nat) (h : s.size ≤ p) : s.data.toList.drop p = [] := List.drop_eq_nil_of_le (by simpa using h)
theorem set4 (f : Nat → Value) (k : Nat) (hk : k < 4) (v : Value) : (#[f 0, f 1, f 2, f 3].setIfInBounds k v) = #[(if 0 = k then v else f 0), (if 1 = k then v else f 1), (if 2 = k then v else f 2), (if 3 = k then v else f 3)] := by
  have : k = 0 ∨ k = 1 ∨ k = 2 ∨ k = 3 := by omega
  rcases this with rfl | rfl | rfl | rfl <;> rfl
theorem get4 (f : Nat → Value) (k : Nat) (hk : k < 4) : (#[f 0, f 1, f 2, f 3] : Array Value)[k]? = some (f k) := by
  have : k = 0 ∨ k = 1 ∨ k = 2 ∨ k = 3 := by omega
  rcases this with rfl | rfl | rfl | rfl <;> rfl
end Go.Proofs.YtjkgglihpkkieaaDoor
