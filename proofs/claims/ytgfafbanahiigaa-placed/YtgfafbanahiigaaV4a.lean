import Derived.Test.YtgfafbanahiigaaV3
import Derived.Test.YtgfafbanahiigaaM9
import Derived.Lib.ConvBytes
set_option linter.unusedVariables false
set_option linter.unusedSimpArgs false
namespace Go.Proofs.Ytgfafbanahiigaa
open Go.RowKit Go.Chorus

theorem valid_iff (c : Int) : Lib.validRune c = true ↔ (0 ≤ c ∧ c < 55296) ∨ (57344 ≤ c ∧ c ≤ 1114111) := by
  unfold Lib.validRune
  simp
  omega

/-- The document's words, as the program asks them. -/
theorem right_iff (l : List UInt8) (N E : Nat) (hN : N ≤ 8) (hk : rd1 l 0 = 1 ∨ rd1 l 0 = 2) (hsz : l.length = sizeB (rd1 l 0) N) (hE : E + 4 = l.length) :
    Right N l ↔ sumFrom (l.take E) 0 = rd4 l E ∧ rightB (rd1 l 0) (rd1 l 1) (rd4 l 2) (rd4 l 6) (seenOf N l) (rd4 l (10 + 4 * N)) (rd1 l (14 + 4 * N)) (if rd1 l 0 = 1 then IntKind.i32.wrap (rd4 l (15 + 4 * N)) else 0) = true := by
  have hEe : l.length - 4 = E := by omega
  have hsl : (seenOf N l).length = N := by simp [seenOf]
  have hsn : sn (fieldsOf N l) (fieldsOf N l).peer = (seenOf N l).getD (rd1 l 1) 0 := rfl
  have hw : ∀ n : Nat, n < 4294967296 → ((Lib.validRune (IntKind.i32.wrap (n : Int)) = true) ↔ okChar n) := by
    intro n hn
    rw [valid_iff, IntKind.wrap_i32]
    unfold okChar
    omega
  unfold rightB namedB
  rw [hsl, Bool.and_eq_true, decide_eq_true_iff]
  rcases hk with h | h
  · have hl : l.length = 23 + 4 * N := by rw [hsz, h]; rfl
    have hlt := rd4_lt l (15 + 4 * N) (by omega)
    have hc : (fieldsOf N l).char = rd4 l (15 + 4 * N) := by show (if rd1 l 0 = 1 then _ else _) = _; rw [if_pos h]
    have hi : (fieldsOf N l).ins = true := by show decide (rd1 l 0 = 1) = true; simpa using h
    rw [if_pos h, if_pos h, Bool.and_eq_true, hw _ hlt]
    simp only [Bool.or_eq_true, Bool.and_eq_true, decide_eq_true_iff]
    constructor
    · intro r
      have r1 := r.begin_
      have r2 := r.npeer
      refine ⟨by rw [← hEe]; exact r.sum, ⟨r.peer, by have := r.num; show rd4 l 2 ≠ 0; have h2 : (fieldsOf N l).num = rd4 l 2 := rfl; omega, by have := r.clock; have h2 : (fieldsOf N l).clock = rd4 l 6 := rfl; omega, by rw [← hsn]; exact r.own⟩, by rw [← hc]; exact r.char hi, ?_⟩
      by_cases h0 : rd4 l (10 + 4 * N) = 0
      · right; exact ⟨h0, (r1 h0).2⟩
      · left; exact ⟨by omega, r2⟩
    · rintro ⟨h1, ⟨h2, h3, h4, h5⟩, h6, h7⟩
      refine ⟨Or.inl ⟨h, hl⟩, h2, by show 1 ≤ rd4 l 2; omega, by show 1 ≤ rd4 l 6; omega, by rw [hsn]; exact h5, ?_, ?_, fun _ => by rw [hc]; exact h6, by rw [hEe]; exact h1⟩
      · rcases h7 with h7 | h7
        · exact h7.2
        · show rd1 l (14 + 4 * N) < N; omega
      · intro h0
        have h0 : rd4 l (10 + 4 * N) = 0 := h0
        rcases h7 with h7 | h7
        · omega
        · exact ⟨hi, h7.2⟩
  · have hl : l.length = 19 + 4 * N := by rw [hsz, h]; rfl
    have hn1 : ¬ rd1 l 0 = 1 := by omega
    have hi : (fieldsOf N l).ins = false := by show decide (rd1 l 0 = 1) = false; simpa using hn1
    rw [if_neg hn1]
    simp only [Bool.and_eq_true, decide_eq_true_iff]
    constructor
    · intro r
      have r1 := r.begin_
      refine ⟨by rw [← hEe]; exact r.sum, ⟨r.peer, by have := r.num; have h2 : (fieldsOf N l).num = rd4 l 2 := rfl; omega, by have := r.clock; have h2 : (fieldsOf N l).clock = rd4 l 6 := rfl; omega, by rw [← hsn]; exact r.own⟩, ?_, r.npeer⟩
      by_cases h0 : rd4 l (10 + 4 * N) = 0
      · have := (r1 h0).1; rw [hi] at this; cases this
      · omega
    · rintro ⟨h1, ⟨h2, h3, h4, h5⟩, h6, h7⟩
      refine ⟨Or.inr ⟨h, hl⟩, h2, by show 1 ≤ rd4 l 2; omega, by show 1 ≤ rd4 l 6; omega, by rw [hsn]; exact h5, h7, ?_, fun hh => by (rw [hi] at hh; cases hh), by rw [hEe]; exact h1⟩
      intro h0
      have h0 : rd4 l (10 + 4 * N) = 0 := h0
      omega

/-- What a right packet's fields are, as the program holds them. -/
theorem right_agg (l : List UInt8) (N : Nat) (hr : Right N l) (hN : N ≤ 8) : rd1 l 0 = (fieldsOf N l).kind ∧ (if rd1 l 0 = 1 then IntKind.i32.wrap (rd4 l (15 + 4 * N)) else 0) = ((fieldsOf N l).char : Int) := by
  rcases hr.size with ⟨h, hl⟩ | ⟨h, hl⟩
  · have hi : (fieldsOf N l).ins = true := by show decide (rd1 l 0 = 1) = true; simpa using h
    have hc : (fieldsOf N l).char = rd4 l (15 + 4 * N) := by show (if rd1 l 0 = 1 then _ else _) = _; rw [if_pos h]
    have hk := hr.char hi
    refine ⟨by rw [h]; unfold Ope.kind; rw [hi]; rfl, ?_⟩
    rw [if_pos h, hc, IntKind.wrap_i32]
    rw [hc] at hk
    unfold okChar at hk
    omega
  · have hn1 : ¬ rd1 l 0 = 1 := by omega
    have hi : (fieldsOf N l).ins = false := by show decide (rd1 l 0 = 1) = false; simpa using hn1
    have hc : (fieldsOf N l).char = 0 := by show (if rd1 l 0 = 1 then _ else _) = _; rw [if_neg hn1]
    exact ⟨by rw [h]; unfold Ope.kind; rw [hi]; rfl, by rw [if_neg hn1, hc]; rfl⟩

end Go.Proofs.Ytgfafbanahiigaa
