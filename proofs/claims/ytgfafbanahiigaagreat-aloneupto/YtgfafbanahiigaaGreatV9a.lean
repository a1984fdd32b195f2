import Derived.Test.YtgfafbanahiigaaGreatW6
import Derived.Test.YtgfafbanahiigaaGreatW8
set_option linter.unusedVariables false
set_option linter.unusedSimpArgs false
namespace Go.Proofs.YtgfafbanahiigaaGreat
open Go.RowKit Go.Chorus
theorem rowCells_set (es : List El) (i : Nat) (e e' : El) (h : es[i]? = some e) (he : e' = { e with dead := true }) : rowCells (es.set i e') = (rowCells es).set (i * 4 + 3) (.bool true) := by
 induction es generalizing i with
 | nil => simp at h
 | cons x r ih =>
  cases i with
  | zero =>
   simp at h; subst h; subst he
   simp [rowCells, El.cells]
  | succ i =>
   have := ih i (by simpa using h)
   simp only [List.set_cons_succ, rowCells, this]
   rw [List.set_append_right _ _ (by simp [El.cells]; omega)]
   congr 2
   simp [El.cells]; omega
theorem kill_any (es : List El) (c p : Nat) (b o : Nat) (T : TypeId) (rv : Value) (w : World) (cs : Array Value) (hb : w.heap[b]? = some (.cells cs T (0, 0))) (hT : T ≠ 102) (hrv : cs[o]? = some rv)
  (hown : w.ownsRow 0 102 4 rv es.length (rowCells es)) (hn : es.length ≤ 4294967296) :
  Calls Tryz.prog 79 #[.pointer (some ⟨b, o, none⟩), .agg #[.int .u32 c, .int .u8 p]] w fun e' w' => e' = .returned (.tuple #[]) ∧
   w'.ownsRow 0 102 4 rv es.length (rowCells (killEl es c p)) ∧ Kept (fun k => rv.ownBlock = some k) w w' := by
 have h0 : w.cell? ⟨b, o, none⟩ = some rv := by rw [Lib.cell_of_heap hb, hrv]
 have hv := rowV_of_own hown
 by_cases hf : 0 ≤ findFrom c p es 0
 ·obtain ⟨i, hi⟩ : ∃ i : Nat, findFrom c p es 0 = i := ⟨(findFrom c p es 0).toNat, by omega⟩
  have hil : i < es.length := by
   rcases findFrom_range c p es 0 with h | ⟨_, h⟩ <;> omega
  rcases hown.2 with ⟨rfl, h0'⟩ | ⟨g, cap, cur, rfl, _, hg, hnc, hm, hsz, htk⟩
  ·omega
  ·refine (kill_some es c p b o i g cap cur w h0 hn hi hg hil (by rw [hsz]; exact Nat.mul_le_mul_right _ hnc) hv).mono ?_
   rintro e' w' ⟨rfl, h1, h2⟩
   refine ⟨rfl, ?_, h2.mono (fun k _ hk => by subst hk; rfl)⟩
   obtain ⟨e, hek⟩ : ∃ e, es[i]? = some e := ⟨_, List.getElem?_eq_getElem hil⟩
   have hke : killEl es c p = es.set i { e with dead := true } := by
    unfold killEl
    rw [if_pos hf, hi, Int.toNat_natCast]
    apply List.ext_getElem?
    intro j
    rw [List.getElem?_modify, List.getElem?_set]
    by_cases hj : i = j
    ·subst hj
     have hee := (List.getElem?_eq_some_iff.1 hek).2
     simp [hek, hil, hee]
    ·simp [hj]
   rw [hke, rowCells_set es i e _ hek rfl]
   refine ⟨by simp [hown.1], Or.inr ⟨g, cap, _, rfl, Nat.zero_le _, h1, hnc, hm, by simpa using hsz, ?_⟩⟩
   rw [Array.toList_setIfInBounds, ← htk, List.take_set]
 ·refine (kill_none es c p b o rv w h0 hv hn hf).mono ?_
  rintro e' w' ⟨rfl, h1⟩
  refine ⟨rfl, ?_, h1.mono (fun _ _ h => h.elim)⟩
  unfold killEl
  rw [if_neg hf]
  exact ownsRow_kept hown h1 (fun _ _ h => h)
end Go.Proofs.YtgfafbanahiigaaGreat
set_option linter.unusedVariables false
set_option linter.unusedSimpArgs false
namespace Go.Proofs.YtgfafbanahiigaaGreat
open Go.RowKit Go.Chorus
set_option maxHeartbeats 1000000 in
set_option maxRecDepth 100000 in
theorem rowInsert_no (es : List El) (c p bc bp : Nat) (ch : Int) (b o : Nat) (T : TypeId) (rv : Value) (w : World) (cs : Array Value) (hb : w.heap[b]? = some (.cells cs T (0, 0))) (hrv : cs[o]? = some rv)
  (hown : w.ownsRow 0 102 4 rv es.length (rowCells es)) (hn : es.length ≤ 4294967296) (h12 : 0 ≤ findFrom c p es 0 ∨ placeOk bc bp es = false) :
  Calls Tryz.prog 77 #[.pointer (some ⟨b, o, none⟩), .agg #[.int .u32 c, .int .u8 p], .agg #[.int .u32 bc, .int .u8 bp], .int .i32 ch] w fun e' w' =>
   e' = .returned (.tuple #[]) ∧ Kept (fun _ => False) w w' := by
 have h0 : w.cell? ⟨b, o, none⟩ = some rv := by rw [Lib.cell_of_heap hb, hrv]
 have hbw := lt_of_heap hb
 have hv := rowV_of_own hown
 go_enter Tryz.func77, Tryz.ntmps77
 go_wp2_with fail
 refine (placeBehind_any bc bp es b o rv _ ?_ (hv.kept (((Kept.refl (fun _ => False) w).alloc _).alloc _) (fun _ _ h => h)) hn).mono ?_
 ·exact (((Kept.refl (fun _ => False) w).alloc _).alloc _).cell' h0 (fun h => h)
 rintro e1 w1 ⟨rfl, hk1⟩
 have hp0 : Hid (w1.heap[w.heap.size]? = some (.cells #[.int .u32 c, .int .u8 p] 100 (0, 0))) := by
  refine hk1.heap (S := fun _ => False) ?_ (fun h => h)
  rw [Below.heap_alloc _ _ _ (by simp)]; exact heap_alloc_new w _
 have hkw1 : Kept (fun _ => False) w w1 := (((Kept.refl (fun _ => False) w).alloc _).alloc _).trans' hk1
 have d0 : w1.cell? ⟨w.heap.size, 0, none⟩ = some (.int .u32 c) := by rw [Lib.cell_of_heap hp0.out]; rfl
 have d1 : w1.cell? ⟨w.heap.size, 1, none⟩ = some (.int .u8 p) := by rw [Lib.cell_of_heap hp0.out]; rfl
 have dz := lt_of_heap hp0.out
 go_wp2_with fail
 refine (find_any c p es b o rv _ (hkw1.cell' h0 (fun h => h)) (hv.kept hkw1 (fun _ _ h => h)) hn).mono ?_
 rintro e2 w2 ⟨rfl, hk2⟩
 have hkw2 := hkw1.trans' hk2
 generalize hF : findFrom c p es 0 = F at h12
 generalize hO : placeOk bc bp es = O at h12
 clear hF hO d0 d1 hk1 hk2 hp0 hkw1
 by_cases hF0 : 0 ≤ F
 ·have e1 : decide (0 ≤ F) = true := by simpa using hF0
  rw [e1]
  clear h12
  cases O <;> (go_wp2; refine bodyPost_ret (v := .tuple #[]) (by simp [results, Tryz.results77, go_sem]) rfl ⟨rfl, hkw2⟩)
 ·have e1 : decide (0 ≤ F) = false := by simpa using hF0
  have : O = false := by rcases h12 with h | h; exact absurd h hF0; exact h
  subst this
  rw [e1]
  clear h12
  go_wp2
  refine bodyPost_ret (v := .tuple #[]) (by simp [results, Tryz.results77, go_sem]) rfl ⟨rfl, hkw2⟩
end Go.Proofs.YtgfafbanahiigaaGreat
