import Derived.Test.YtgfafbanahiigaaV19a
import Derived.Test.YtgfafbanahiigaaM12
set_option linter.unusedVariables false
set_option linter.unusedSimpArgs false
namespace Go.Proofs.Ytgfafbanahiigaa
open Go.RowKit Go.Chorus Go.Sort

theorem sum_take_le (l : List Nat) (hb : ∀ n ∈ l, n < 4294967296) : ∀ k, (l.take k).sum ≤ k * 4294967296 := by
  induction l with
  | nil => intro k; simp
  | cons a l ih =>
    intro k
    cases k with
    | zero => simp
    | succ k =>
      have h1 := hb a (by simp)
      have h2 := ih (fun n hn => hb n (by simp [hn])) k
      simp only [List.take_succ_cons, List.sum_cons]
      omega

theorem sum_take_succ (l : List Nat) (k x : Nat) (hx : l[k]? = some x) : (l.take (k + 1)).sum = (l.take k).sum + x := by
  obtain ⟨h1, h2⟩ := List.getElem?_eq_some_iff.1 hx
  rw [List.take_succ_eq_append_getElem h1, List.sum_append, h2]
  simp

set_option maxHeartbeats 1000000 in
theorem ksum_any (g c : Nat) (l : List Nat) (w : World) (hl : l.length ≤ 100) (hb : ∀ n ∈ l, n < 4294967296) (ha : ∀ (i n : Nat), l[i]? = some n → w.cell? ⟨g, i, none⟩ = some (.int .i64 (n : Int))) :
    Calls Try.prog 22 #[.slice (some ⟨g, 0, none⟩) l.length c] w fun e' w' => e' = .returned (.int .i64 (l.sum : Int)) ∧ w' = w := by
  obtain ⟨n, hn⟩ : ∃ n, l.length = n := ⟨_, rfl⟩
  have HL : Hid (l.length = n) := hn
  rw [hn]
  have hn100 : n ≤ 100 := by omega
  clear hl hn
  go_enter Try.func22, Try.ntmps22
  go_wp2
  go_loopw [3, 4] (fun s i wr => ∃ k : Nat, k ≤ n ∧ i = .int .i64 k ∧ s = .int .i64 ((l.take k).sum : Nat) ∧ wr = w) (fun _ i _ => n - (intOf i).toNat)
  case atStart => exact ⟨0, Nat.zero_le _, rfl, rfl, rfl⟩
  case round =>
    obtain ⟨k, hk, rfl, rfl, hkp⟩ := hrel
    subst hkp
    by_cases hlt : k < n
    · obtain ⟨x, hx⟩ : ∃ x, l[k]? = some x := ⟨_, List.getElem?_eq_getElem (by rw [HL.out]; exact hlt)⟩
      have c0 := ha k x hx
      have hlt2 : (k : Int) < (n : Int) := by omega
      have hs := sum_take_le l hb k
      have hx2 := hb x (List.mem_of_getElem? hx)
      have HS : Hid ((l.take (k + 1)).sum = (l.take k).sum + x) := sum_take_succ l k x hx
      generalize (l.take k).sum = S at *
      have hSx : S + x ≤ 4294967296 * 101 := by
        have : k * 4294967296 ≤ 100 * 4294967296 := Nat.mul_le_mul_right _ (by omega)
        omega
      clear hx hs hx2
      go_wp2
      go_roundw
      case rel => exact ⟨k + 1, by omega, by go_num, by rw [HS.out]; go_num, trivial⟩
      case measure => simp [intOf]; omega
    · have HD : Hid ((l.take k).sum = l.sum) := by
        show (l.take k).sum = l.sum
        rw [List.take_of_length_le (by rw [HL.out]; omega)]
      go_wp2
      go_ret
      exact ⟨by rw [← HD.out]; rfl, rfl⟩
end Go.Proofs.Ytgfafbanahiigaa
