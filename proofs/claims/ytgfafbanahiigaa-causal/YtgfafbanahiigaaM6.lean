/- The check sum tells a byte that is another one; of no program. -/
import Derived.Test.YtgfafbanahiigaaSpec
set_option linter.unusedVariables false
set_option linter.unusedSimpArgs false
namespace Go.Chorus

theorem coprime_sum : Nat.Coprime 4294967296 65599 := by unfold Nat.Coprime; decide

theorem mod_dvd (x y M : Nat) (h : (x + y) % M = x % M) : M ∣ y := by
  have h1 := Nat.sub_mod_eq_zero_of_mod_eq h
  rw [Nat.add_sub_cancel_left] at h1
  exact Nat.dvd_of_mod_eq_zero h1

theorem sum_parts (M s t c : Nat) (hle : t ≤ s) : s * M + c = (t * M + c) + (s - t) * M := by
  have h2 : s * M = t * M + (s - t) * M := by rw [← Nat.add_mul, Nat.add_sub_cancel' hle]
  rw [h2]; exact Nat.add_right_comm _ _ _

theorem step_le (M P s t c : Nat) (hM : Nat.Coprime P M) (hle : t ≤ s) (hs : s < P) (h : (s * M + c) % P = (t * M + c) % P) : s = t := by
  rw [sum_parts M s t c hle] at h
  have hd := hM.dvd_of_dvd_mul_right (mod_dvd _ _ _ h)
  exact Nat.le_antisymm (Nat.le_of_sub_eq_zero (Nat.eq_zero_of_dvd_of_lt hd (Nat.lt_of_le_of_lt (Nat.sub_le s t) hs))) hle

theorem sum_step_le (s t c : Nat) (hle : t ≤ s) (hs : s < 4294967296) (h : (s * 65599 + c) % 4294967296 = (t * 65599 + c) % 4294967296) : s = t := step_le 65599 4294967296 s t c coprime_sum hle hs h

theorem sum_step_inj (s t c : Nat) (hs : s < 4294967296) (ht : t < 4294967296) (h : (s * 65599 + c) % 4294967296 = (t * 65599 + c) % 4294967296) : s = t := by
  rcases Nat.le_total t s with hl | hl
  · exact sum_step_le s t c hl hs h
  · exact (sum_step_le t s c hl ht h.symm).symm

theorem sum_state_inj (l : List UInt8) (s t : Nat) (hs : s < 4294967296) (ht : t < 4294967296) (h : sumFrom l s = sumFrom l t) : s = t := by
  induction l generalizing s t with
  | nil => exact h
  | cons b r ih =>
    have := ih _ _ (Nat.mod_lt _ (by decide)) (Nat.mod_lt _ (by decide)) h
    exact sum_step_inj s t (b.toNat + 1) hs ht (by simpa [Nat.add_assoc] using this)

theorem sumFrom_append (a b : List UInt8) (s : Nat) : sumFrom (a ++ b) s = sumFrom b (sumFrom a s) := by
  induction a generalizing s with
  | nil => rfl
  | cons x r ih => exact ih _

/-- One byte is another one: so is the sum. -/
theorem sum_byte (a r : List UInt8) (b c : UInt8) (h : b ≠ c) : sumFrom (a ++ b :: r) 0 ≠ sumFrom (a ++ c :: r) 0 := by
  rw [sumFrom_append, sumFrom_append]
  intro he
  have h1 := sum_state_inj r _ _ (Nat.mod_lt _ (by decide)) (Nat.mod_lt _ (by decide)) he
  have hb := b.toNat_lt
  have hc := c.toNat_lt
  have : b.toNat = c.toNat := by omega
  exact h (UInt8.toNat_inj.1 this)

/-- Four bytes tell the number. -/
theorem four_inj (n m : Nat) (hn : n < 4294967296) (hm : m < 4294967296) (h : four n = four m) : n = m := by
  unfold four at h
  simp only [List.cons.injEq, and_true, ← UInt8.toNat_inj, UInt8.toNat_ofNat'] at h
  omega

end Go.Chorus
