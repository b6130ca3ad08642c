/- sieve: May, for rite. A template (fill.py). -/
import Derived.Test.YtihjklimcchkhaaGreatDoorVA
namespace Go.Proofs.YtihjklimcchkhaaGreatDoor.Sv
open Go.RowKit Go.Extern.Stop Go.Stop Go.Extern Go.Sort
def mayK (now : Int) (s : Sp) : Bool := s.is && (s.low != now)
theorem may_in (now : Int) (s : Sp) (b : Nat) (w : World) (h : BlkW w b 3 #[.int .i64 now]) : Calls Tryz.prog 160 #[sv s, .pointer (some ⟨b, 0, none⟩)] w fun e w' => e = .returned (.bool (mayK now s)) ∧ Below w.heap.size w w' := by
  have p0 := h.cell 0
  have z1 := h.lt
  clear h
  simp only [List.getElem?_toArray, List.getElem?_cons_zero] at p0
  unfold sv mayK
  obtain ⟨is, lo, hi⟩ := s
  cases is
  · go_enter Tryz.func160, Tryz.ntmps160
    go_wp2
    go_ret
    exact ⟨rfl, below_alloc (Below.refl _ _) _⟩
  · go_enter Tryz.func160, Tryz.ntmps160
    go_wp2
    go_ret
    exact ⟨by simp, below_alloc (Below.refl _ _) _⟩
theorem tells_may (now : Int) (b : Nat) (W : World) (h : BlkW W b 3 #[.int .i64 now]) : Tells 160 #[.pointer (some ⟨b, 0, none⟩)] sv (mayK now) W :=
  ⟨fun x w => by kernel_rfl, fun x w hb => may_in now x b w (h.below hb)⟩
theorem May_any (now : Int) (u : Value) (ks : List Sp) (W : World) (hu : RowC sc 3 W u ks) (hk : ks.length ≤ 200) :
    Calls Tryz.prog 126 #[.int .i64 now, u] W fun e w' => e = .returned (.bool (!(ks.any (mayK now)))) ∧ Below W.heap.size W w' := by
  have BX := Lib.hid (below_alloc (Below.refl W.heap.size W) (.cells #[.int .i64 now] 3))
  have C := Lib.hid (hasS 160 _ _ _ u ks (hu.keep BX.out) hk (tells_may now W.heap.size _ (BlkW.new W _ _)))
  obtain ⟨ao, cp, rfl⟩ := hu.slice
  clear hu
  go_enter Tryz.func126, Tryz.ntmps126
  go_wp2_with fail
  refine C.out.mono ?_
  rintro e w1 ⟨rfl, hb⟩
  have B1 := Lib.hid (below_trans BX.out hb)
  clear hb
  go_wp2
  go_ret
  exact ⟨rfl, B1.out⟩
end Go.Proofs.YtihjklimcchkhaaGreatDoor.Sv
