import Derived.Test.YtgfafbanahiigaaW2
namespace Go.Proofs.Ytgfafbanahiigaa
open Go.RowKit Go.Chorus

-- [choruskeep alone
set_option maxHeartbeats 400000 in
theorem kpick_any (c n : Int) (w : World) (hn0 : 0 < n) (hn1 : n ≤ 9223372036854775807) (hc0 : -9223372036854775808 ≤ c) (hc1 : c ≤ 9223372036854775807) :
    Calls Try.prog 13 #[.int .i64 c, .int .i64 n] w fun e' w' => e' = .returned (.int .i64 (pickN c n)) ∧ w' = w := by
  by_cases h : c < 0
  · go_enter Try.func13, Try.ntmps13
    go_wp2
    go_ret
    exact ⟨ret_int (by unfold pickN; rw [if_pos h, ← Int.neg_tmod, Int.tmod_eq_emod_of_nonneg (by omega)]), rfl⟩
  · go_enter Try.func13, Try.ntmps13
    go_wp2
    go_ret
    exact ⟨ret_int (by unfold pickN; rw [if_neg (by omega)]), rfl⟩
-- choruskeep alone]

end Go.Proofs.Ytgfafbanahiigaa
