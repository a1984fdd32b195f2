import Derived.Test.YtgfafbanahiigaaGreatV15
import Derived.Laws.Cover4
set_option linter.unusedVariables false
set_option linter.unusedSimpArgs false
namespace Go.Proofs.YtgfafbanahiigaaGreat
open Go.RowKit Go.Chorus

theorem new_pm (peer peers : Nat) (w : World) (h1 : 1 ≤ peers) (h2 : peers ≤ 8) (h4 : peer < peers) :
    Calls Tryz.prog 9 #[.int .i64 peer, .int .i64 peers] w fun e' w' => ∃ bp F, e' = .returned (.tuple #[.pointer (some ⟨bp, 0, none⟩), .int .i64 0]) ∧
      PM w' bp ⟨peer, 0, List.replicate peers 0, [], [], List.replicate peers []⟩ F ∧ (∀ k, F k → w.heap.size ≤ k) ∧ Kept (fun _ => False) w w' := by
  refine (new_any peer peers w h1 h2 h4).mono ?_
  rintro e' w' ⟨bp, bk, rfl, hP, hb1, hb2, hb3, hk⟩
  refine ⟨bp, Own bp bk (.slice none 0 0) (.slice none 0 0) [], rfl, ⟨bk, _, _, [], hP, ⟨World.ownsRow_nil _ _ _ _, fun m hm => by cases hm⟩, rfl, rfl⟩, ?_, hk⟩
  rintro k ((rfl | h | h) | h | ⟨m, hm, _⟩ | h)
  · exact hb1
  · exact hb2 k h
  · simp [Value.ownBlock] at h
  · simp [Value.ownBlock] at h
  · cases hm
  · exact absurd h (hb3 k)

theorem kept_new {w0 w w' : World} {F : Nat → Prop} (h : Kept (fun _ => False) w0 w) (k : Kept F w w') (hF : ∀ j, F j → w0.heap.size ≤ j) : Kept (fun _ => False) w0 w' :=
  h.trans k (fun i hi hs => by have := hF i hs; omega)

theorem own_new {w0 w : World} {F F' : Nat → Prop} (h : w0.heap.size ≤ w.heap.size) (hF : ∀ j, F j → w0.heap.size ≤ j) (hn : ∀ j, F' j → F j ∨ w.heap.size ≤ j) : ∀ j, F' j → w0.heap.size ≤ j := fun j hj => by
  rcases hn j hj with h1 | h1
  · exact hF j h1
  · omega

end Go.Proofs.YtgfafbanahiigaaGreat
