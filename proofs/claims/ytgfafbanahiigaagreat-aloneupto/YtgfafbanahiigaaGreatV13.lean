import Derived.Test.YtgfafbanahiigaaGreatV12
set_option linter.unusedVariables false
set_option linter.unusedSimpArgs false
namespace Go.Proofs.YtgfafbanahiigaaGreat
open Go.RowKit Go.Chorus
theorem firstGo_mem (s : Pr) (l : List Ope) (i : Nat) (x : Nat × Ope) (h : firstGo s l i = some x) : i ≤ x.1 ∧ l[x.1 - i]? = some x.2 ∧ s.can x.2 = true := by
 induction l generalizing i with
 | nil => cases h
 | cons o r ih =>
  unfold firstGo at h
  by_cases hc : s.can o = true
  ·rw [if_pos hc] at h; cases h; exact ⟨Nat.le_refl _, by simp, hc⟩
  ·rw [if_neg hc] at h
   obtain ⟨a, b, c⟩ := ih (i + 1) h
   refine ⟨by omega, ?_, c⟩
   have : x.1 - i = (x.1 - (i + 1)) + 1 := by omega
   rw [this, List.getElem?_cons_succ]; exact b
theorem settleF_fit {N : Nat} : ∀ (f : Nat) (s : Pr), Fit N s → Fit N (settleF f s).1 ∧ psize (settleF f s).1 ≤ psize s := by
 intro f
 induction f with
 | zero => intro s h; exact ⟨h, Nat.le_refl _⟩
 | succ f ih =>
  intro s h
  unfold settleF
  cases hf : s.firstCan with
  | none => exact ⟨h, Nat.le_refl _⟩
  | some x =>
   obtain ⟨i, o⟩ := x
   obtain ⟨_, hi, hc⟩ := firstGo_mem s s.held 0 (i, o) hf
   simp only [Nat.sub_zero] at hi hc
   have hil : i < s.held.length := (List.getElem?_eq_some_iff.1 hi).1
   have hel : (s.held.eraseIdx i).length = s.held.length - 1 := List.length_eraseIdx_of_lt hil
   have h1 : Fit N ({ s with held := s.held.eraseIdx i } : Pr) := ⟨h.len, h.n1, h.n8, h.me, h.known, h.clock, fun o ho => h.held o (List.mem_of_mem_eraseIdx ho), by have := h.most; show (s.held.eraseIdx i).length ≤ 16; omega, h.row, h.log⟩
   have h2 := h1.apply (h.held o (List.mem_of_getElem? hi)) ((can_iff s o).1 hc).1
   obtain ⟨a, b⟩ := ih _ h2
   have h3 := size_apply ({ s with held := s.held.eraseIdx i } : Pr) o
   refine ⟨a, Nat.le_trans b ?_⟩
   unfold psize at h3 ⊢
   have h4 : ({ s with held := s.held.eraseIdx i } : Pr).held.length = s.held.length - 1 := hel
   have h5 : ({ s with held := s.held.eraseIdx i } : Pr).row = s.row := rfl
   rw [h4, h5] at h3
   omega
theorem Turn.trans {bp : Nat} {F F' : Nat → Prop} {w w' w'' : World} {s' : Pr} (k : Kept F w w') (hF : ∀ k, F' k → F k ∨ w.heap.size ≤ k) (h : Turn bp F' w' w'' s') : Turn bp F w w'' s' := by
 obtain ⟨F2, a, b, c⟩ := h
 refine ⟨F2, a, k.trans b (fun i hi hs => ?_), fun i hi => ?_⟩
 ·rcases hF i hs with h | h
  ·exact h
  ·omega
 ·rcases c i hi with h | h
  ·exact hF i h
  ·exact Or.inr (Nat.le_trans k.size h)
end Go.Proofs.YtgfafbanahiigaaGreat
