import Derived.Test.YtgfafbanahiigaaGreatV2
set_option linter.unusedVariables false
set_option linter.unusedSimpArgs false
namespace Go.Proofs.YtgfafbanahiigaaGreat
open Go.RowKit Go.Chorus

/-- Is each field within its bounds? -/
def namedB (N tc tp : Nat) : Bool := decide (0 < tc) && decide (tp < N)
def rightB (kd p n c : Nat) (seen : List Nat) (tc tp : Nat) (ch : Int) : Bool :=
  decide (p < seen.length ∧ n ≠ 0 ∧ c ≠ 0 ∧ seen.getD p 0 + 1 = n) &&
    (if kd = 1 then Lib.validRune ch && (namedB seen.length tc tp || (decide (tc = 0) && decide (tp = 0))) else namedB seen.length tc tp)

theorem rightB_false1 {kd p n c : Nat} {seen : List Nat} {tc tp : Nat} {ch : Int} (h : ¬ (p < seen.length ∧ n ≠ 0 ∧ c ≠ 0 ∧ seen.getD p 0 + 1 = n)) : rightB kd p n c seen tc tp ch = false := by
  unfold rightB; rw [decide_eq_false h]; rfl

theorem rightB_true1 {kd p n c : Nat} {seen : List Nat} {tc tp : Nat} {ch : Int} (h : p < seen.length ∧ n ≠ 0 ∧ c ≠ 0 ∧ seen.getD p 0 + 1 = n) : rightB kd p n c seen tc tp ch = (if kd = 1 then Lib.validRune ch && (namedB seen.length tc tp || (decide (tc = 0) && decide (tp = 0))) else namedB seen.length tc tp) := by
  unfold rightB; rw [decide_eq_true h]; rfl

set_option maxHeartbeats 1000000 in
theorem opRight_any (kd p n c : Nat) (seen : List Nat) (g cap tc tp : Nat) (ch : Int) (w : World) (hkd : kd < 256) (hp : p < 256) (hn : n < 4294967296) (hc : c < 4294967296) (htc : tc < 4294967296) (htp : tp < 256) (hsl : seen.length ≤ 8) (hsf : ∀ x ∈ seen, x < 4294967296)
    (hs : ∀ (i x : Nat), seen[i]? = some x → w.cell? ⟨g, i, none⟩ = some (.int .u32 (x : Int))) :
    Calls Tryz.prog 88 #[.agg #[.int .u8 kd, .int .u8 p, .int .u32 n, .int .u32 c, .slice (some ⟨g, 0, none⟩) seen.length cap, .int .u32 tc, .int .u8 tp, .int .i32 ch]] w fun e' w' =>
      e' = .returned (.bool (rightB kd p n c seen tc tp ch)) ∧ Kept (fun _ => False) w w' := by
  by_cases h1 : seen.length ≤ p
  · have HB : Hid (rightB kd p n c seen tc tp ch = false) := rightB_false1 (by omega)
    have e1 : (seen.length : Int) ≤ (p : Int) := by omega
    have e2 : decide ((seen.length : Int) ≤ (p : Int)) = true := by simpa using e1
    clear h1
    go_enter Tryz.func88, Tryz.ntmps88
    go_wp2
    go_ret
    exact ⟨ret_bool HB.out.symm, (Kept.refl _ _).alloc _⟩
  · by_cases h2 : n = 0
    · have HB : Hid (rightB kd p n c seen tc tp ch = false) := rightB_false1 (by omega)
      subst h2
      go_enter Tryz.func88, Tryz.ntmps88
      go_wp2
      go_ret
      exact ⟨ret_bool HB.out.symm, (Kept.refl _ _).alloc _⟩
    · by_cases h3 : c = 0
      · have HB : Hid (rightB kd p n c seen tc tp ch = false) := rightB_false1 (by omega)
        have e2 : ((n : Int) == 0) = false := by simpa using h2
        subst h3
        go_enter Tryz.func88, Tryz.ntmps88
        go_wp2
        go_ret
        exact ⟨ret_bool HB.out.symm, (Kept.refl _ _).alloc _⟩
      · have e2 : ((n : Int) == 0) = false := by simpa using h2
        have e3 : ((c : Int) == 0) = false := by simpa using h3
        obtain ⟨x, hx⟩ : ∃ x, seen[p]? = some x := ⟨_, List.getElem?_eq_getElem (by omega)⟩
        have hxf := hsf x (List.mem_of_getElem? hx)
        have hxg : seen.getD p 0 = x := by rw [List.getD_eq_getElem?_getD, hx]; rfl
        have c0 := hs p x hx
        have hpl : (p : Int) < (seen.length : Int) := by omega
        by_cases h4 : x + 1 = n
        · have e4 : ((x : Int) == (n : Int) - 1) = true := by simp; omega
          have e5 : (x : Int) = (n : Int) - 1 := by omega
          have HB : Hid (rightB kd p n c seen tc tp ch = _) := rightB_true1 ⟨by omega, h2, h3, by rw [hxg]; exact h4⟩
          have hgw := World.block_lt_of_cell? w _ c0
          clear hx hxg hs hsf h2 h3
          by_cases hk1 : kd = 1
          · subst hk1
            rw [if_pos rfl] at HB
            go_enter Tryz.func88, Tryz.ntmps88
            go_wp2
            go_quiet (fail)
            go_wp2_with fail
            all_goals
              refine (Tryz.utf8_ValidRune ch _).mono ?_
              rintro e1 w1 ⟨rfl, rfl⟩
              cases hv : Lib.validRune ch
            all_goals go_wp2
            all_goals go_ret
            all_goals refine ⟨ret_bool ?_, ?_⟩
            all_goals first
              | exact ((Kept.refl _ _).alloc _).drewN _
              | (rw [HB.out, hv]; rfl)
              | (rw [HB.out, hv]; simp [namedB]; omega)
              | (rw [HB.out, hv]; simp [namedB, *]; done)
              | (rw [HB.out, hv]; simp [namedB, *]; omega)
          · rw [if_neg hk1] at HB
            have e6 : ((kd : Int) == 1) = false := by simp; omega
            have e7 : ¬ (kd : Int) = 1 := by omega
            clear hk1
            go_enter Tryz.func88, Tryz.ntmps88
            go_wp2
            go_quiet (fail)
            go_wp2
            all_goals go_ret
            all_goals exact ⟨ret_bool (by rw [HB.out]; simp [namedB, *]), ((Kept.refl _ _).alloc _).drewN _⟩
        · have e4 : ((x : Int) == (n : Int) - 1) = false := by simp; omega
          have e5 : ¬ (x : Int) = (n : Int) - 1 := by omega
          have HB : Hid (rightB kd p n c seen tc tp ch = false) := rightB_false1 (by rw [hxg]; omega)
          have hgw := World.block_lt_of_cell? w _ c0
          clear hx hxg hs hsf h2 h3 h4
          go_enter Tryz.func88, Tryz.ntmps88
          go_wp2
          go_quiet (fail)
          go_wp2
          go_ret
          exact ⟨ret_bool HB.out.symm, ((Kept.refl _ _).alloc _).drewN _⟩

end Go.Proofs.YtgfafbanahiigaaGreat
