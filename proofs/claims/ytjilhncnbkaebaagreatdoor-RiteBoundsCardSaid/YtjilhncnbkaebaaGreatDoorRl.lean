/- rite: scan by announcements of slots. A template (made by gen_XRl.py). -/
import Derived.Test.YtjilhncnbkaebaaGreatDoorRk
namespace Go.Proofs.YtjilhncnbkaebaaGreatDoor
open Go.RowKit Go.Extern.Stop Go.Stop Go.Extern Go.Sort
section
variable {w w' : World} {B r : Nat} {sv fv nv : Value} {m : Rt} {K : Nat → Prop}
/-- The first one that may be freed stands among the notes, from where the scan is on. -/
def FreeOk (m : Rt) : Prop := ∀ x l, m.st.free = x :: l → ∃ k0, ∃ hk : k0 < (m.notes.drop m.st.pos).length, (m.notes.drop m.st.pos)[k0] = x ∧ ∀ j, ∀ h : j < k0, (m.notes.drop m.st.pos)[j] ≠ x
theorem release_any (h : RiteP w B r sv fv nv m K) (hl : m.notes.length ≤ 1000) (hF : FreeOk m) :
    Calls Tryz.prog 114 #[.pointer (some ⟨r, 0, none⟩)] w (RPost w B r K m.release) := by
  cases hf : m.st.free with
  | nil => rw [release_nil m hf]; exact release_end h hf
  | cons x l =>
    obtain ⟨k0, hk, hx, hb⟩ := hF x l hf
    exact release_next h x l hf k0 hl hk hx hb
theorem strike_any (h : RiteP w B r sv fv nv m K) (hp : m.st.pos < m.notes.length) (hl : m.notes.length ≤ 1000) (hf : m.freed ≤ 100000) (b : Bool) :
    Calls Tryz.prog 115 #[.pointer (some ⟨r, 0, none⟩), .bool b] w (RPost w B r K (m.strike b)) := by
  cases b with
  | true => exact strike_yes h hp hl hf
  | false => exact strike_no h (by omega)
theorem strike_notes (m : Rt) (b : Bool) : (m.strike b).notes.length ≤ m.notes.length := by
  cases b with
  | true => exact List.length_eraseIdx_le _ _
  | false => exact Nat.le_refl _
set_option maxRecDepth 100000 in
set_option maxHeartbeats 1000000 in
theorem scan_freed (h : RiteP w B r sv fv nv m K) (x : Wd × Bool) (hd : m.st.done = 8) (hp : m.st.pos < m.notes.length) (hl : m.notes.length ≤ 1000) (hf : m.freed ≤ 100000) (hF : FreeOk (m.strike x.2)) :
    Calls Tryz.prog 82 #[.pointer (some ⟨r, 0, none⟩), rpv x] w (RPost w B r K ((m.strike x.2).release)) := by
  have HRL := Lib.hid (fun b (e : K b) => (show b ≠ w.heap.size from Nat.ne_of_lt (h.low b e).2))
  replace HRL : Hid (∀ b, K b → b ≠ w.heap.size) := HRL
  have h1 := h.below (below_alloc (Below.refl _ _) (.cells #[.int .i64 x.1.slot, .int .i64 x.1.gen, .int .i64 x.1.tag, .int .i64 x.1.num, .bool x.1.mark, .bool x.2] 63))
  have HX := Lib.hid (box_rep w x)
  have HB0 := Lib.hid (below_alloc (Below.refl w.heap.size w) (.cells #[.int .i64 x.1.slot, .int .i64 x.1.gen, .int .i64 x.1.tag, .int .i64 x.1.num, .bool x.1.mark, .bool x.2] 63))
  have HR := Lib.hid h1
  clear h h1
  unfold rpv
  go_enter Tryz.func82, Tryz.ntmps82
  go_upto_region 1 with fail
  generalize w.alloc (.cells #[.int .i64 x.1.slot, .int .i64 x.1.gen, .int .i64 x.1.tag, .int .i64 x.1.num, .bool x.1.mark, .bool x.2] 63) = W at HR HX HB0 ⊢
  have hX := HX.out
  have hzx := BlkW.lt hX
  have hrx : w.heap.size ≠ r := fun e => BlkW.ne_ hX HR.out.at_ (by decide) e
  have hkx : ¬ K w.heap.size := fun e => HRL.out _ e rfl
  obtain ⟨b0, b1, b2, b3, b4, b5⟩ := rep6 hX
  have hz := BlkW.lt HR.out.at_
  have cd := HR.out.at_.done
  have ce := HR.out.at_.fix.1
  clear hX HX
  generalize w.heap.size = g at hzx hrx hkx b0 b1 b2 b3 b4 b5 ⊢
  rw [hd] at cd
  have HS := Lib.hid (strike_any HR.out hp hl hf x.2)
  have HL := Lib.hid (Nat.le_trans (strike_notes m x.2) hl)
  have HF := Lib.hid hF
  clear hd hp hl hf hF
  go_wp2_with fail
  refine HS.out.mono ?_
  rintro e w1 ⟨rfl, h1⟩
  obtain ⟨K1, ⟨sv1, fv1, nv1, hp1⟩, ho1, hk1⟩ := h1.out
  have HP1 := Lib.hid hp1
  have HO1 := Lib.hid ho1
  have HK1 := Lib.hid hk1
  clear hp1 ho1 hk1
  go_wp2_with fail
  refine (release_any HP1.out HL.out HF.out).mono ?_
  rintro e w2 ⟨rfl, h2⟩
  go_wp2
  first
    | go_end0
    | refine bodyPost_ret (results_none rfl _ _ _) rfl ?_
  exact ⟨rfl, Lib.hid (RStep.below HB0.out (RStep.trans HO1.out HK1.out h2.out))⟩
set_option maxRecDepth 100000 in
set_option maxHeartbeats 1000000 in
theorem scan_first (h : RiteP w B r sv fv nv m K) (x : Wd × Bool) (hd : m.st.done = 0) (he : m.eng = 2) (hs : m.st.said = []) (ht : 1 ≤ m.thr ∧ m.thr ≤ 6) :
    Calls Tryz.prog 82 #[.pointer (some ⟨r, 0, none⟩), rpv x] w (RPost w B r K ((m.setClock x.1).hear)) := by
  have HRL := Lib.hid (fun b (e : K b) => (show b ≠ w.heap.size from Nat.ne_of_lt (h.low b e).2))
  replace HRL : Hid (∀ b, K b → b ≠ w.heap.size) := HRL
  have h1 := h.below (below_alloc (Below.refl _ _) (.cells #[.int .i64 x.1.slot, .int .i64 x.1.gen, .int .i64 x.1.tag, .int .i64 x.1.num, .bool x.1.mark, .bool x.2] 63))
  have HX := Lib.hid (box_rep w x)
  have HB0 := Lib.hid (below_alloc (Below.refl w.heap.size w) (.cells #[.int .i64 x.1.slot, .int .i64 x.1.gen, .int .i64 x.1.tag, .int .i64 x.1.num, .bool x.1.mark, .bool x.2] 63))
  have HR := Lib.hid h1
  clear h h1
  unfold rpv
  go_enter Tryz.func82, Tryz.ntmps82
  go_upto_region 1 with fail
  generalize w.alloc (.cells #[.int .i64 x.1.slot, .int .i64 x.1.gen, .int .i64 x.1.tag, .int .i64 x.1.num, .bool x.1.mark, .bool x.2] 63) = W at HR HX HB0 ⊢
  have hX := HX.out
  have hzx := BlkW.lt hX
  have hrx : w.heap.size ≠ r := fun e => BlkW.ne_ hX HR.out.at_ (by decide) e
  have hkx : ¬ K w.heap.size := fun e => HRL.out _ e rfl
  obtain ⟨b0, b1, b2, b3, b4, b5⟩ := rep6 hX
  have hz := BlkW.lt HR.out.at_
  have cd := HR.out.at_.done
  have ce := HR.out.at_.fix.1
  clear hX HX
  generalize w.heap.size = g at hzx hrx hkx b0 b1 b2 b3 b4 b5 ⊢
  rw [hd] at cd
  rw [he] at ce
  have hw : (m.setClock x.1).saysWords = true := by unfold Rt.saysWords; rw [show (m.setClock x.1).eng = 2 from he]; rfl
  have HH : Hid ((m.setClock x.1).hear = (m.setClock x.1).load (0, 0, (keepAt (m.st.said.length / 9) (m.st.said.length % 9) : Nat)) 7) := Lib.hid (by unfold Rt.hear; rw [hw]; rfl)
  have HSL := Lib.hid (show m.st.said.length < m.thr * 9 by rw [hs]; simp; omega)
  obtain ⟨ao, cp, esv⟩ := Sv.own_slice HR.out.said
  have HE := Lib.hid esv
  have hht := ht.2
  obtain ⟨s0, s1, s2, s3, s4⟩ := HR.out.at_.clock5
  have fz : ∀ o, W.frozen? ⟨r, o, none⟩ = false := HR.out.at_.frozen
  have HW := Lib.hid hw
  clear hd he hs ht hw esv
  go_wp2_with fail
  show Calls _ _ _ (W.setCells r 45 (wc x.1)) _
  have RS := Lib.hid (HR.out.at_.setClock x.1)
  have OS := Lib.hid (Only.sets (r := r) (w := W) 45 (wc x.1))
  generalize W.setCells r 45 (wc x.1) = W1 at RS OS ⊢
  refine (listen_more RS.out ⟨ao, cp, HE.out⟩ hht HW.out HSL.out).mono ?_
  rintro e w2 ⟨rfl, h1, h2⟩
  go_wp2
  first
    | go_end0
    | refine bodyPost_ret (results_none rfl _ _ _) rfl ?_
  rw [HH.out]
  exact ⟨rfl, Lib.hid (RStep.below HB0.out (HR.out.step_only h1.out (OS.out.trans h2.out) (.inl ⟨rfl, rfl⟩) (.inl ⟨rfl, rfl⟩) rfl))⟩
end
end Go.Proofs.YtjilhncnbkaebaaGreatDoor
