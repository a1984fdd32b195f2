import Derived.Test.YtgfafbanahiigaaD9
set_option linter.unusedVariables false
set_option linter.unusedSimpArgs false
namespace Go.Proofs.Ytgfafbanahiigaa
open Go.RowKit Go.Chorus

set_option maxHeartbeats 1000000 in
set_option maxRecDepth 100000 in
theorem rowInsert_no (es : List El) (c p bc bp : Nat) (ch : Int) (b o : Nat) (T : TypeId) (rv : Value) (w : World) (cs : Array Value) (hb : w.heap[b]? = some (.cells cs T (0, 0))) (hrv : cs[o]? = some rv)
    (hown : w.ownsRow 0 90 4 rv es.length (rowCells es)) (hn : es.length ≤ 4294967296) (h12 : 0 ≤ findFrom c p es 0 ∨ placeOk bc bp es = false) :
    Calls Try.prog 54 #[.pointer (some ⟨b, o, none⟩), .agg #[.int .u32 c, .int .u8 p], .agg #[.int .u32 bc, .int .u8 bp], .int .i32 ch] w fun e' w' =>
      e' = .returned (.tuple #[]) ∧ Kept (fun _ => False) w w' := by
  have h0 : w.cell? ⟨b, o, none⟩ = some rv := by rw [Lib.cell_of_heap hb, hrv]
  have hbw := lt_of_heap hb
  have hv := rowV_of_own hown
  go_enter Try.func54, Try.ntmps54
  go_wp2_with fail
  refine (placeBehind_any bc bp es b o rv _ ?_ (hv.kept (((Kept.refl (fun _ => False) w).alloc _).alloc _) (fun _ _ h => h)) hn).mono ?_
  · exact (((Kept.refl (fun _ => False) w).alloc _).alloc _).cell' h0 (fun h => h)
  rintro e1 w1 ⟨rfl, hk1⟩
  have hp0 : Hid (w1.heap[w.heap.size]? = some (.cells #[.int .u32 c, .int .u8 p] 73 (0, 0))) := by
    refine hk1.heap (S := fun _ => False) ?_ (fun h => h)
    rw [Below.heap_alloc _ _ _ (by simp)]; exact heap_alloc_new w _
  have hkw1 : Kept (fun _ => False) w w1 := (((Kept.refl (fun _ => False) w).alloc _).alloc _).trans' hk1
  have d0 : w1.cell? ⟨w.heap.size, 0, none⟩ = some (.int .u32 c) := by rw [Lib.cell_of_heap hp0.out]; rfl
  have d1 : w1.cell? ⟨w.heap.size, 1, none⟩ = some (.int .u8 p) := by rw [Lib.cell_of_heap hp0.out]; rfl
  have dz := lt_of_heap hp0.out
  go_wp2_with fail
  refine (find_any c p es b o rv _ (hkw1.cell' h0 (fun h => h)) (hv.kept hkw1 (fun _ _ h => h)) hn).mono ?_
  rintro e2 w2 ⟨rfl, hk2⟩
  have hkw2 := hkw1.trans' hk2
  generalize hF : findFrom c p es 0 = F at h12
  generalize hO : placeOk bc bp es = O at h12
  clear hF hO d0 d1 hk1 hk2 hp0 hkw1
  by_cases hF0 : 0 ≤ F
  · have e1 : decide (0 ≤ F) = true := by simpa using hF0
    rw [e1]
    clear h12
    cases O <;> (go_wp2; refine bodyPost_ret (v := .tuple #[]) (by simp [results, Try.results54, go_sem]) rfl ⟨rfl, hkw2⟩)
  · have e1 : decide (0 ≤ F) = false := by simpa using hF0
    have : O = false := by rcases h12 with h | h; exact absurd h hF0; exact h
    subst this
    rw [e1]
    clear h12
    go_wp2
    refine bodyPost_ret (v := .tuple #[]) (by simp [results, Try.results54, go_sem]) rfl ⟨rfl, hkw2⟩

end Go.Proofs.Ytgfafbanahiigaa
