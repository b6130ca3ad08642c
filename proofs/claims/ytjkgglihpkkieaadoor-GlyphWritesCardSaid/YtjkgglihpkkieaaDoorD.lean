/- Pack of a word that can't be; the reference's digits. -/
import Derived.Test.YtjkgglihpkkieaaDoorP
import Derived.WalkSpells
namespace Go.Proofs.YtjkgglihpkkieaaDoor
open Go.RowKit Go.Extern.Stop Go.Stop Go.Extern

set_option maxRecDepth 100000 in
theorem Pack_bad (s g t n : Int) (m : Bool) (hg : goodB s g t n = false) (a b : Addr) (w : World) (L : Env w a b) :
    Calls Tryd.prog 9 #[.agg #[.int .i64 s, .int .i64 g, .int .i64 t, .int .i64 n, .bool m]] w fun e w' => ∃ u, e = .returned (.tuple #[.string ⟨#[]⟩, u]) ∧ Ch w' (.iface 117 (.pointer (some a))) [2] u ∧ Below w.heap.size w w' := by
  have G := Good_any s g t n m
  rw [hg] at G
  have HL : Hid _ := L
  clear L hg
  go_enter Tryd.func9, Tryd.ntmps9
  go_wp2_with fail
  refine (G _).mono ?_
  rintro e w1 ⟨rfl, hb⟩
  have HB : Hid (Below w.heap.size w w1) := below_trans (below_alloc (Below.refl _ _) _) hb
  have L1 := (HL.out.keep HB.out).arg
  clear hb G
  go_wp2_with fail
  refine (At_ch (T := 117) (x := .pointer (some a)) (ps := []) 2 Ch.base).mono ?_
  rintro e w2 ⟨u, rfl, hc, hb⟩
  have HC : Hid _ := hc
  have HB2 : Hid (Below w.heap.size w w2) := below_trans HB.out hb
  clear hc hb
  go_wp2
  go_ret2
  exact ⟨_, rfl, HC.out, HB2.out⟩

def dgB (n : Nat) : ByteArray := ⟨(Lib.decDigits n).toArray⟩
def ten : ByteArray := ⟨#[48, 49, 50, 51, 52, 53, 54, 55, 56, 57]⟩
theorem ten_piece_fin : ∀ i : Fin 10, ten.extract i.val (i.val + 1) = dgB i.val := by
  intro i
  apply ba_ext
  have e : (dgB i.val).data.toList = [UInt8.ofNat (48 + i.val)] := Lib.decDigits_one i.isLt
  rw [e]
  revert i
  decide +kernel
theorem ten_piece (n : Nat) (h : n < 10) : ten.extract n (n + 1) = dgB n := ten_piece_fin ⟨n, h⟩
theorem dgB_big (n : Nat) (h : ¬ n < 10) : dgB n = dgB (n / 10) ++ dgB (n % 10) := by
  apply ba_ext
  show Lib.decDigits n = _
  rw [ByteArray.data_append, Array.toList_append]
  show _ = Lib.decDigits (n / 10) ++ Lib.decDigits (n % 10)
  rw [Lib.decDigits_one (by omega : n % 10 < 10)]
  exact (by rw [Lib.decDigits, dif_neg h] : Lib.decDigits n = _)
theorem dgB_size (n : Nat) (h : n ≤ 1099511627776) : (dgB n).size ≤ 13 := dec_len n h
def Dg (w : World) (n : Nat) (e : Ending) (w' : World) : Prop := e = .returned (.string (dgB n)) ∧ ∃ q, w' = w.drewN q
theorem digits_small (n : Nat) (h : n < 10) (w : World) : Calls Tryd.prog 24 #[.int .i64 n] w (Dg w n) := by
  have h' : (n : Int) < 10 := by omega
  have ht : Hid (ten.extract n (n + 1) = dgB n) := ten_piece n h
  go_enter Tryd.func24, Tryd.ntmps24
  go_wp2_with fail
  go_ret
  refine ⟨?_, 0, rfl⟩
  rw [← ht.out]
  rfl
theorem digits_any (k : Nat) : ∀ (n : Nat) (w : World), n ≤ k → n ≤ 1099511627776 → Calls Tryd.prog 24 #[.int .i64 n] w (Dg w n) := by
  induction k with
  | zero => exact fun n w hk _ => digits_small n (by omega) w
  | succ k ih =>
    intro n w hk hn
    by_cases h : n < 10
    · exact digits_small n h w
    · have h' : ¬ (n : Int) < 10 := by omega
      have c := fun W => ih (n / 10) W (by omega) (by omega)
      have c' : ∀ W, Calls Tryd.prog 24 #[.int .i64 ((n : Int) / 10)] W fun e w' => e = .returned (.string (dgB (n / 10))) ∧ ∃ m, w' = W.drewN m := c
      have C := Lib.hid c'
      clear c c' ih
      have ht : Hid (ten.extract (n % 10) (n % 10 + 1) = dgB (n % 10)) := ten_piece _ (by omega)
      have hs := dgB_size (n / 10) (by omega)
      have hbig : Hid _ := dgB_big n h
      go_enter Tryd.func24, Tryd.ntmps24
      go_wp2_with fail
      go_quiet ((go_at_call 24; exact Calls.quiet_of (C.out _)))
      go_wp2
      go_ret
      refine ⟨?_, _, rfl⟩
      rw [hbig.out, ← ht.out]
      rfl
end Go.Proofs.YtjkgglihpkkieaaDoor
