/- Slots, Eras, Spans, Epochs: what each parts. A template (made by gen_XSl.py). -/
import Derived.Test.YtlhhjbjdinimjaaSp
namespace Go.Proofs.Ytlhhjbjdinimjaa
open Go.RowKit Go.Extern.Stop Go.Stop Go.Extern Go.Sort
def slotP (ks : List Wd) (n : Nt) : Bool := ks.any fun k => slotK k n
def eraP (ks : List Int) (n : Nt) : Bool := ks.any fun k => eraK k n
def spanP (ks : List Sp) (n : Nt) : Bool := ks.any fun k => spanK k n
theorem Parted.from_ {w w1 : World} {xs : List Nt} {p : Nt → Bool} {e : Ending} {w' : World} (h : Parted w1 xs p e w') (hb : Below w.heap.size w w1) : Parted w xs p e w' := by
  obtain ⟨a, b, h1, h2, h3, h4⟩ := h
  exact ⟨a, b, h1, h2, h3, Lib.hid (below_trans hb h4.out)⟩

theorem Slots_any (v u : Value) (xs : List Nt) (ks : List Wd) (W : World) (hv : RowC nc 7 W v xs) (hu : RowC wc 5 W u ks) (hl : xs.length ≤ 200) (hk : ks.length ≤ 200) :
    Calls Try.prog 11 #[v, u] W (Parted W xs (slotP ks)) := by
  have HV := Lib.hid hv
  have C := Lib.hid (amongW u ks W hu hk)
  obtain ⟨ao, cp, rfl⟩ := hv.slice
  obtain ⟨ao', cp', rfl⟩ := hu.slice
  clear hv hu
  go_enter Try.func11, Try.ntmps11
  go_wp2_with fail
  refine C.out.mono ?_
  rintro e w1 ⟨cap, rfl, T, hb⟩
  have B1 := Lib.hid hb
  clear hb
  go_wp2_with fail
  refine (part_any _ cap (slotP ks) _ _ xs (HV.out.keep B1.out) hl T.out).mono ?_
  rintro e w2 ⟨a, b, rfl, ra, rb, hb⟩
  have B2 := Lib.hid (below_trans B1.out hb.out)
  clear hb
  go_wp2
  go_ret2
  exact ⟨a, b, rfl, ra, rb, B2⟩

theorem Eras_any (v u : Value) (xs : List Nt) (ks : List Int) (W : World) (hv : RowC nc 7 W v xs) (hu : RowC ic 1 W u ks) (hl : xs.length ≤ 200) (hk : ks.length ≤ 200) :
    Calls Try.prog 12 #[v, u] W (Parted W xs (eraP ks)) := by
  have HV := Lib.hid hv
  have C := Lib.hid (amongI u ks W hu hk)
  obtain ⟨ao, cp, rfl⟩ := hv.slice
  obtain ⟨ao', cp', rfl⟩ := hu.slice
  clear hv hu
  go_enter Try.func12, Try.ntmps12
  go_wp2_with fail
  refine C.out.mono ?_
  rintro e w1 ⟨cap, rfl, T, hb⟩
  have B1 := Lib.hid hb
  clear hb
  go_wp2_with fail
  refine (part_any _ cap (eraP ks) _ _ xs (HV.out.keep B1.out) hl T.out).mono ?_
  rintro e w2 ⟨a, b, rfl, ra, rb, hb⟩
  have B2 := Lib.hid (below_trans B1.out hb.out)
  clear hb
  go_wp2
  go_ret2
  exact ⟨a, b, rfl, ra, rb, B2⟩

theorem Spans_any (v u : Value) (xs : List Nt) (ks : List Sp) (W : World) (hv : RowC nc 7 W v xs) (hu : RowC sc 3 W u ks) (hl : xs.length ≤ 200) (hk : ks.length ≤ 200) :
    Calls Try.prog 13 #[v, u] W (Parted W xs (spanP ks)) := by
  have HV := Lib.hid hv
  have C := Lib.hid (amongS u ks W hu hk)
  obtain ⟨ao, cp, rfl⟩ := hv.slice
  obtain ⟨ao', cp', rfl⟩ := hu.slice
  clear hv hu
  go_enter Try.func13, Try.ntmps13
  go_wp2_with fail
  refine C.out.mono ?_
  rintro e w1 ⟨cap, rfl, T, hb⟩
  have B1 := Lib.hid hb
  clear hb
  go_wp2_with fail
  refine (part_any _ cap (spanP ks) _ _ xs (HV.out.keep B1.out) hl T.out).mono ?_
  rintro e w2 ⟨a, b, rfl, ra, rb, hb⟩
  have B2 := Lib.hid (below_trans B1.out hb.out)
  clear hb
  go_wp2
  go_ret2
  exact ⟨a, b, rfl, ra, rb, B2⟩

theorem Epochs_any (v : Value) (now : Int) (xs : List Nt) (W : World) (hv : RowC nc 7 W v xs) (hl : xs.length ≤ 200) :
    Calls Try.prog 10 #[v, .int .i64 now] W (Parted W xs (epochK now)) := by
  have HV := Lib.hid hv
  obtain ⟨ao, cp, rfl⟩ := hv.slice
  clear hv
  have B1 := Lib.hid (below_alloc (Below.refl W.heap.size W) (.cells #[.int .i64 now] 3))
  have T := Lib.hid (tells_epochs now W.heap.size _ (BlkW.new W 3 #[.int .i64 now]))
  go_enter Try.func10, Try.ntmps10
  go_wp2_with fail
  refine (part_any _ _ (epochK now) _ _ xs (HV.out.keep B1.out) hl T.out).mono ?_
  rintro e w2 ⟨a, b, rfl, ra, rb, hb⟩
  have B2 := Lib.hid (below_trans B1.out hb.out)
  clear hb
  go_wp2
  go_ret2
  exact ⟨a, b, rfl, ra, rb, B2⟩
end Go.Proofs.Ytlhhjbjdinimjaa
