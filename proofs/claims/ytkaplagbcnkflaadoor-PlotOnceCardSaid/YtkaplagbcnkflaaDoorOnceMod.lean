/- PlotOnce, as plain data. A template (fill.py). -/
import Derived.Test.YtkaplagbcnkflaaDoorStaysMod
import Derived.Test.YtkaplagbcnkflaaDoorUsed
namespace Go.Proofs.YtkaplagbcnkflaaDoor
open Go.RowKit Go.Extern.Stop Go.Stop Go.Extern Go.Sort
/-- What holds of a plot and what the law keeps beside it: the words given so far, the generation in which each slot is used, how many are used. -/
structure On (t : St) (n : Nat) (G : List Wd) (U : Nat → Int) (live : Nat) : Prop where
  cnt : t.n = n
  used : ∀ i, i < n → U (i + 1) = if (t.slot i).given = true then ((t.slot i).gen : Int) else 0
  words : ∀ g ∈ G, ∃ i : Nat, i < n ∧ g.slot = (i : Int) + 1 ∧ g.gen ≤ ((t.slot i).gen : Int)
  made : t.made = G.length
  live : live + t.free.length = n
theorem on_new (n : Nat) : On (St.new n 4) n [] (fun _ => 0) 0 := ⟨rfl, fun i _ => by simp [St.new], fun g hg => absurd hg (List.not_mem_nil), rfl, by simp [St.new]⟩
theorem on_same {t t' : St} {n : Nat} {G : List Wd} {U : Nat → Int} {live : Nat} (h : On t n G U live) (h1 : t'.n = t.n) (h2 : ∀ i, (t'.slot i).given = (t.slot i).given ∧ (t'.slot i).gen = (t.slot i).gen) (h3 : t'.made = t.made) (h4 : t'.free = t.free) : On t' n G U live :=
  ⟨h1.trans h.cnt, fun i hi => by rw [(h2 i).1, (h2 i).2]; exact h.used i hi, fun g hg => by
    obtain ⟨i, h5, h6, h7⟩ := h.words g hg
    exact ⟨i, h5, h6, by rw [(h2 i).2]; exact h7⟩, h3.trans h.made, by rw [h4]; exact h.live⟩
/-- A slot is given. -/
theorem on_give {t : St} {n : Nat} {G : List Wd} {U : Nat → Int} {live : Nat} (h : On t n G U live) (o : t.Ok) (a : Ac) (hk : a.kind = 4) {i : Nat} {r : List Nat} (hf : t.free = i :: r) :
    i < n ∧ (t.step a).2 = (⟨(i : Int) + 1, ((t.slot i).gen : Int) + 1, 0, 0, false⟩, true) ∧ U (i + 1) = 0 ∧ (∀ g ∈ G, ¬ (g.slot = (i : Int) + 1 ∧ g.gen = ((t.slot i).gen : Int) + 1)) ∧
      On (t.step a).1 n (G ++ [⟨(i : Int) + 1, ((t.slot i).gen : Int) + 1, 0, 0, false⟩]) (fun k => if k = i + 1 then ((t.slot i).gen : Int) + 1 else U k) (live + 1) := by
  have hin : i < n := by rw [← h.cnt]; exact o.lt i (by rw [hf]; exact List.mem_cons_self ..)
  have hgv : (t.slot i).given = false := (o.mem i (by rw [h.cnt]; exact hin)).1 (by rw [hf]; exact List.mem_cons_self ..)
  have hU : U (i + 1) = 0 := by rw [h.used i hin, hgv]; rfl
  have hf' : t.tick.free = i :: r := hf
  rw [step_give hk]
  unfold St.give
  rw [hf']
  refine ⟨hin, rfl, hU, fun g hg e => ?_, ⟨h.cnt, fun j hj => ?_, fun g hg => ?_, ?_, ?_⟩⟩
  · obtain ⟨j, h1, h2, h3⟩ := h.words g hg
    have : j = i := by omega
    subst this
    omega
  · show (if j + 1 = i + 1 then _ else U (j + 1)) = if (if j = i then _ else t.slot j : Sl).given = true then (((if j = i then _ else t.slot j : Sl).gen : Nat) : Int) else 0
    by_cases e : j = i
    · subst e; simp [St.tick]
    · rw [if_neg (by omega), if_neg e]; exact h.used j hj
  · rcases List.mem_append.1 hg with hg | hg
    · obtain ⟨j, h1, h2, h3⟩ := h.words g hg
      refine ⟨j, h1, h2, ?_⟩
      show g.gen ≤ (((if j = i then _ else t.slot j : Sl).gen : Nat) : Int)
      by_cases e : j = i
      · subst e; rw [if_pos rfl]; show g.gen ≤ (((t.slot j).gen + 1 : Nat) : Int); omega
      · rw [if_neg e]; exact h3
    · obtain rfl := List.mem_singleton.1 hg
      refine ⟨i, hin, rfl, ?_⟩
      show ((t.slot i).gen : Int) + 1 ≤ (((if i = i then _ else t.slot i : Sl).gen : Nat) : Int)
      rw [if_pos rfl]; show _ ≤ (((t.slot i).gen + 1 : Nat) : Int); omega
  · show t.made + 1 = _
    rw [h.made]; simp
  · show live + 1 + r.length = n
    have := h.live
    rw [hf, List.length_cons] at this
    omega
/-- No slot is free. -/
theorem on_none {t : St} {n : Nat} {G : List Wd} {U : Nat → Int} {live : Nat} (h : On t n G U live) (a : Ac) (hk : a.kind = 4) (hf : t.free = []) :
    (t.step a).2 = (⟨0, 0, 0, 0, false⟩, false) ∧ live = n ∧ On (t.step a).1 n G U live := by
  have hf' : t.tick.free = [] := hf
  rw [step_give hk]
  unfold St.give
  rw [hf']
  refine ⟨rfl, by have := h.live; rw [hf] at this; simpa using this, ?_⟩
  exact ⟨h.cnt, h.used, h.words, h.made, h.live⟩
/-- A slot is freed. -/
theorem on_free {t : St} {n : Nat} {G : List Wd} {U : Nat → Int} {live : Nat} (h : On t n G U live) (o : t.Ok) (a : Ac) (hk : a.kind = 5) (hc : t.can a = true) (hok : (t.step a).2.2 = true) :
    ∃ i : Nat, i < n ∧ a.old.slot = (i : Int) + 1 ∧ U (i + 1) = a.old.gen ∧ 1 ≤ live ∧ (t.step a).2 = (⟨0, 0, 0, 0, false⟩, true) ∧ On (t.step a).1 n G (fun k => if k = i + 1 then 0 else U k) (live - 1) := by
  have hr : 1 ≤ a.old.slot ∧ a.old.slot ≤ t.n := by
    unfold St.can at hc
    rw [if_neg (by omega), if_neg (by omega), if_pos hk] at hc
    simpa using hc
  obtain ⟨i, hi⟩ : ∃ i : Nat, a.old.slot = (i : Int) + 1 := ⟨(a.old.slot - 1).toNat, by omega⟩
  have hin : i < t.n := by omega
  have hin' : i < n := by rw [← h.cnt]; exact hin
  by_cases hg : (t.slot i).given = true
  · by_cases he : ((t.slot i).gen : Int) = a.old.gen
    · have hni : i ∉ t.free := fun e => by have := (o.mem i hin).1 e; rw [hg] at this; cases this
      have hlt : t.free.length < t.n := by
        have h1 := nodup_sub (i :: t.free) (List.range t.n) (List.nodup_cons.2 ⟨hni, o.nodup⟩) (fun x hx => by
          rcases List.mem_cons.1 hx with rfl | hx
          · exact List.mem_range.2 hin
          · exact List.mem_range.2 (o.lt x hx))
        simp at h1
        omega
      have hl : 1 ≤ live := by have := h.live; have := h.cnt; omega
      refine ⟨i, hin', hi, by rw [h.used i hin', if_pos hg, he], hl, ?_⟩
      rw [step_take hk i hin hi hg he]
      refine ⟨rfl, ⟨h.cnt, fun j hj => ?_, fun g hg' => ?_, h.made, ?_⟩⟩
      · show (if j + 1 = i + 1 then (0 : Int) else U (j + 1)) = if (if j = i then _ else t.slot j : Sl).given = true then (((if j = i then _ else t.slot j : Sl).gen : Nat) : Int) else 0
        by_cases e : j = i
        · subst e; simp
        · rw [if_neg (by omega), if_neg e]; exact h.used j hj
      · obtain ⟨j, h1, h2, h3⟩ := h.words g hg'
        refine ⟨j, h1, h2, ?_⟩
        show g.gen ≤ (((if j = i then _ else t.slot j : Sl).gen : Nat) : Int)
        by_cases e : j = i
        · subst e; rw [if_pos rfl]; exact h3
        · rw [if_neg e]; exact h3
      · show live - 1 + (t.free.length + 1) = n
        have := h.live; omega
    · exfalso
      unfold St.step St.act at hok
      have hw : ({ t with steps := t.steps + 1 } : St).wrong a = some .stale := by
        unfold St.wrong
        rw [if_neg (by omega), if_pos hk]
        unfold St.miss
        rw [if_pos hr]
        have e : (a.old.slot - 1).toNat = i := by omega
        show (if (t.slot (a.old.slot - 1).toNat).given = false then _ else _) = _
        rw [e, if_neg (by simp [hg])]
        rw [if_pos (show ((t.slot i).gen : Int) ≠ a.old.gen from he)]
      rw [hw] at hok
      cases hok
  · exfalso
    have hg' : (t.slot i).given = false := by simpa using hg
    rw [step_twice hk i hin hi hg'] at hok
    cases hok
/-- Nothing that the law sees. -/
theorem on_other {t : St} {n : Nat} {G : List Wd} {U : Nat → Int} {live : Nat} (h : On t n G U live) (a : Ac) (hk : a.kind ≠ 4) (h5 : a.kind = 5 → (t.step a).2.2 = false) : On (t.step a).1 n G U live := by
  unfold St.step St.act at h5 ⊢
  split
  · exact on_same h rfl (fun _ => ⟨rfl, rfl⟩) rfl rfl
  · rename_i hw
    rw [hw] at h5
    simp only [] at h5
    rw [if_neg hk] at h5 ⊢
    split
    · rename_i k5
      have := h5 k5
      rw [if_pos k5] at this
      cases this
    · split
      · rename_i l _
        have key : ∀ d : Wd, On (({ t with steps := t.steps + 1 } : St).write l d) n G U live := fun d => by
          refine on_same h (by cases l <;> rfl) (fun i => ?_) (by cases l <;> rfl) (by cases l <;> rfl)
          cases l with
          | board f => exact ⟨rfl, rfl⟩
          | slot j f =>
            show (if i = j then _ else t.slot i : Sl).given = _ ∧ (if i = j then _ else t.slot i : Sl).gen = _
            by_cases e : i = j
            · subst e; rw [if_pos rfl]; exact ⟨rfl, rfl⟩
            · rw [if_neg e]; exact ⟨rfl, rfl⟩
        have same : On ({ t with steps := t.steps + 1 } : St) n G U live := on_same h rfl (fun _ => ⟨rfl, rfl⟩) rfl rfl
        unfold St.touch
        split
        · exact same
        · split
          · exact key _
          · split
            · exact key _
            · exact same
      · exact on_same h rfl (fun _ => ⟨rfl, rfl⟩) rfl rfl
end Go.Proofs.YtkaplagbcnkflaaDoor
