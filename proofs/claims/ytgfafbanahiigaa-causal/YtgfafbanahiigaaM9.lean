/- Spoilt packets are not right; of no program. -/
import Derived.Test.YtgfafbanahiigaaM8
set_option linter.unusedVariables false
set_option linter.unusedSimpArgs false
namespace Go.Chorus

theorem Right.long {N : Nat} {l : List UInt8} (h : Right N l) : 4 ≤ l.length := by rcases h.size with h1 | h1 <;> omega

theorem last_four (l : List UInt8) (h : 4 ≤ l.length) : l.drop (l.length - 4) = four (rd4 l (l.length - 4)) := by
  have := (split4 l (l.length - 4) (by omega)).1
  have hz : l.drop (l.length - 4 + 4) = [] := List.drop_eq_nil_of_le (by omega)
  rw [hz, List.append_nil] at this
  exact this

/-- One byte is another one. -/
theorem spoilt_byte {N : Nat} (a r : List UInt8) (b c : UInt8) (hbc : b ≠ c) (h : Right N (a ++ b :: r)) : ¬ Right N (a ++ c :: r) := by
  intro h'
  have hl : (a ++ c :: r).length = (a ++ b :: r).length := by simp
  have h4 := h.long
  have s1 := h.sum
  have s2 := h'.sum
  rw [hl] at s2
  obtain ⟨L, hL⟩ : ∃ L, (a ++ b :: r).length - 4 = L := ⟨_, rfl⟩
  rw [hL] at s1 s2
  have hlen : (a ++ b :: r).length = a.length + r.length + 1 := by simp; omega
  by_cases hi : a.length < L
  · -- in the head
    have t : ∀ x : UInt8, (a ++ x :: r).take L = a ++ x :: r.take (L - a.length - 1) := by
      intro x
      rw [List.take_append, List.take_of_length_le (by omega)]
      obtain ⟨m, hm⟩ : ∃ m, L - a.length = m + 1 := ⟨L - a.length - 1, by omega⟩
      rw [hm]; simp
    have d : ∀ x : UInt8, rd4 (a ++ x :: r) L = readBE ((r.drop (L - a.length - 1)).take 4) := by
      intro x
      unfold rd4
      rw [List.drop_append, List.drop_eq_nil_of_le (by omega), List.nil_append]
      obtain ⟨m, hm⟩ : ∃ m, L - a.length = m + 1 := ⟨L - a.length - 1, by omega⟩
      rw [hm]; simp
    rw [t, d] at s1 s2
    exact sum_byte a _ b c hbc (s1.trans s2.symm)
  · -- in the sum itself
    have t : ∀ x : UInt8, (a ++ x :: r).take L = a.take L := fun x => List.take_append_of_le_length (by omega)
    rw [t] at s1 s2
    have e : rd4 (a ++ b :: r) L = rd4 (a ++ c :: r) L := s1.symm.trans s2
    have f1 := last_four (a ++ b :: r) h4
    have f2 := last_four (a ++ c :: r) (by omega)
    rw [hl] at f2
    rw [hL] at f1 f2
    rw [e, ← f2, List.drop_append_of_le_length (by omega), List.drop_append_of_le_length (by omega)] at f1
    have := List.append_cancel_left f1
    simp only [List.cons.injEq, and_true] at this
    exact hbc this

theorem rd1_take (l : List UInt8) (i : Nat) (h : 0 < i) : rd1 (l.take i) 0 = rd1 l 0 := by
  unfold rd1
  rw [List.getD_eq_getElem?_getD, List.getD_eq_getElem?_getD, List.getElem?_take, if_pos h]

/-- Cut off. -/
theorem spoilt_cut {N : Nat} (l : List UInt8) (i : Nat) (hi : i < l.length) (h : Right N l) : ¬ Right N (l.take i) := by
  intro h'
  have hl : (l.take i).length = i := by rw [List.length_take]; omega
  have h4 := h'.long
  have hr := rd1_take l i (by omega)
  rcases h.size with h1 | h1 <;> rcases h'.size with h2 | h2 <;> omega

/-- Gone on. -/
theorem spoilt_more {N : Nat} (l : List UInt8) (x : UInt8) (h : Right N l) : ¬ Right N (l ++ [x]) := by
  intro h'
  have hl : (l ++ [x]).length = l.length + 1 := by simp
  have h4 := h.long
  have hr : rd1 (l ++ [x]) 0 = rd1 l 0 := by
    unfold rd1
    rw [List.getD_eq_getElem?_getD, List.getD_eq_getElem?_getD, List.getElem?_append_left (by omega)]
  rcases h.size with h1 | h1 <;> rcases h'.size with h2 | h2 <;> omega

/-- Nothing. -/
theorem spoilt_nil {N : Nat} : ¬ Right N [] := fun h => by have := h.long; simp at this

end Go.Chorus
