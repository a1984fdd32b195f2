import Derived.Deep.RegionWith
import Derived.BigRegion
import Derived.Deep.DeepCutAuto
import Derived.Test.YtgfafbanahiigaaGreatV1
import Derived.Test.YtgfafbanahiigaaGreatWB
set_option linter.unusedVariables false
set_option linter.unusedSimpArgs false
namespace Go.Proofs.YtgfafbanahiigaaGreat
open Go.RowKit Go.Chorus
def seenOf (N : Nat) (l : List UInt8) : List Nat := (List.range N).map fun i => rd4 l (10 + 4 * i)
structure OSt (w wr : World) (b : Nat) (l : List UInt8) (at_ : Nat) (box : Array Value) : Prop where
 reader : ReaderAt wr b l at_
 kept : Kept (fun k => k = b) w wr
 box : wr.heap[w.heap.size + 1]? = some (.cells box 115 (0, 0))
 res : wr.heap[w.heap.size]? = some (.cells #[.int .u8 0, .int .u8 0, .int .u32 0, .int .u32 0, .slice none 0 0, .int .u32 0, .int .u8 0, .int .i32 0] 115 (0, 0))
 lt : b < w.heap.size
theorem OSt.start {w : World} {b : Nat} {l : List UInt8} (h : ReaderAt w b l 0) : OSt w ((w.alloc (.cells #[.int .u8 0, .int .u8 0, .int .u32 0, .int .u32 0, .slice none 0 0, .int .u32 0, .int .u8 0, .int .i32 0] 115)).alloc (.cells #[.int .u8 0, .int .u8 0, .int .u32 0, .int .u32 0, .slice none 0 0, .int .u32 0, .int .u8 0, .int .i32 0] 115)) b l 0 #[.int .u8 0, .int .u8 0, .int .u32 0, .int .u32 0, .slice none 0 0, .int .u32 0, .int .u8 0, .int .i32 0] := by
 have hb := lt_of_heap h
 refine ⟨?_, ((Kept.refl (fun k => k = b) w).alloc _).alloc _, ?_, ?_, hb⟩
 ·show (World.heap _)[b]? = _
  rw [Below.heap_alloc _ _ _ (by simp; omega), Below.heap_alloc _ _ _ hb]; exact h
 ·have := heap_alloc_new (w.alloc (.cells #[.int .u8 0, .int .u8 0, .int .u32 0, .int .u32 0, .slice none 0 0, .int .u32 0, .int .u8 0, .int .i32 0] 115)) (.cells #[.int .u8 0, .int .u8 0, .int .u32 0, .int .u32 0, .slice none 0 0, .int .u32 0, .int .u8 0, .int .i32 0] 115)
  simpa using this
 ·rw [Below.heap_alloc _ _ _ (by simp)]; exact heap_alloc_new w _
theorem OSt.call {w wr w' : World} {b : Nat} {l : List UInt8} {at_ at' : Nat} {box : Array Value} (h : OSt w wr b l at_ box) (hR : ReaderAt w' b l at') (hK : Kept (fun k => k = b) wr w') : OSt w w' b l at' box :=
 ⟨hR, h.kept.trans' hK, hK.heap h.box (fun e => by have := h.lt; omega), hK.heap h.res (fun e => by have := h.lt; omega), h.lt⟩
theorem OSt.store {w wr : World} {b : Nat} {l : List UInt8} {at_ : Nat} {box : Array Value} (h : OSt w wr b l at_ box) (j : Nat) (v : Value) : OSt w (wr.setCell ⟨w.heap.size + 1, j, none⟩ v) b l at_ (box.setIfInBounds j v) := by
 have hlt := h.lt
 refine ⟨?_, h.kept.setCell (fun h => by simp at h; omega) _, heap_set_same h.box j v, ?_, hlt⟩
 ·show (World.heap _)[b]? = _
  rw [Below.heap_setCell _ _ _ _ (by show b ≠ w.heap.size + 1; omega)]; exact h.reader
 ·rw [Below.heap_setCell _ _ _ _ (by show w.heap.size ≠ w.heap.size + 1; omega)]; exact h.res
theorem OSt.alloc {w wr : World} {b : Nat} {l : List UInt8} {at_ : Nat} {box : Array Value} (h : OSt w wr b l at_ box) (o : Obj) : OSt w (wr.alloc o) b l at_ box := by
 have k : Kept (fun _ => False) wr (wr.alloc o) := (Kept.refl _ wr).alloc o
 exact ⟨k.heap h.reader (fun h => h), h.kept.alloc o, k.heap h.box (fun h => h), k.heap h.res (fun h => h), h.lt⟩
theorem OSt.fz {w wr : World} {b : Nat} {l : List UInt8} {at_ : Nat} {box : Array Value} (h : OSt w wr b l at_ box) : ∀ j, wr.frozen? ⟨w.heap.size + 1, j, none⟩ = false := Lib.frozen_of_heap h.box
theorem OSt.cell {w wr : World} {b : Nat} {l : List UInt8} {at_ : Nat} {box : Array Value} (h : OSt w wr b l at_ box) (j : Nat) : wr.cell? ⟨w.heap.size + 1, j, none⟩ = box[j]? := Lib.cell_of_heap h.box j
theorem OSt.lt2 {w wr : World} {b : Nat} {l : List UInt8} {at_ : Nat} {box : Array Value} (h : OSt w wr b l at_ box) : w.heap.size + 1 < wr.heap.size := lt_of_heap h.box
theorem OSt.cells8 {w wr : World} {b : Nat} {l : List UInt8} {at_ : Nat} {a0 a1 a2 a3 a4 a5 a6 a7 : Value} (h : OSt w wr b l at_ #[a0, a1, a2, a3, a4, a5, a6, a7]) :
  wr.cell? ⟨w.heap.size + 1, 0, none⟩ = some a0 ∧ wr.cell? ⟨w.heap.size + 1, 1, none⟩ = some a1 ∧ wr.cell? ⟨w.heap.size + 1, 2, none⟩ = some a2 ∧ wr.cell? ⟨w.heap.size + 1, 3, none⟩ = some a3 ∧ wr.cell? ⟨w.heap.size + 1, 4, none⟩ = some a4 ∧ wr.cell? ⟨w.heap.size + 1, 5, none⟩ = some a5 ∧ wr.cell? ⟨w.heap.size + 1, 6, none⟩ = some a6 ∧ wr.cell? ⟨w.heap.size + 1, 7, none⟩ = some a7 :=
 ⟨h.cell 0, h.cell 1, h.cell 2, h.cell 3, h.cell 4, h.cell 5, h.cell 6, h.cell 7⟩
theorem OSt.res8 {w wr : World} {b : Nat} {l : List UInt8} {at_ : Nat} {box : Array Value} (h : OSt w wr b l at_ box) :
  wr.cell? ⟨w.heap.size, 0, none⟩ = some (.int .u8 0) ∧ wr.cell? ⟨w.heap.size, 1, none⟩ = some (.int .u8 0) ∧ wr.cell? ⟨w.heap.size, 2, none⟩ = some (.int .u32 0) ∧ wr.cell? ⟨w.heap.size, 3, none⟩ = some (.int .u32 0) ∧ wr.cell? ⟨w.heap.size, 4, none⟩ = some (.slice none 0 0) ∧ wr.cell? ⟨w.heap.size, 5, none⟩ = some (.int .u32 0) ∧ wr.cell? ⟨w.heap.size, 6, none⟩ = some (.int .u8 0) ∧ wr.cell? ⟨w.heap.size, 7, none⟩ = some (.int .i32 0) ∧ (∀ j, wr.frozen? ⟨w.heap.size, j, none⟩ = false) := by
 refine ⟨?_, ?_, ?_, ?_, ?_, ?_, ?_, ?_, Lib.frozen_of_heap h.res⟩ <;> (rw [Lib.cell_of_heap h.res]; rfl)
theorem OSt.fin {w wr w' : World} {b : Nat} {l : List UInt8} {at_ at' : Nat} {box : Array Value} (h : OSt w wr b l at_ box) {g : Nat} {o : Obj} (G : wr.heap[g]? = some o) (hg : w.heap.size < g) (hn : at_ = at') (hk : Kept (fun j => j = w.heap.size) wr w') :
  w'.heap[g]? = some o ∧ w.heap.size ≤ g ∧ ReaderAt w' b l at' ∧ Kept (fun k => k = b) w w' := by
 subst hn
 exact ⟨hk.heap G (by omega), by omega, hk.heap h.reader (by have := h.lt; omega), h.kept.trans hk (fun i hi hs => by omega)⟩
set_option maxHeartbeats 1000000 in
theorem rdOp_any (b : Nat) (l : List UInt8) (N : Nat) (w : World) (h : ReaderAt w b l 0) (hN1 : 1 ≤ N) (hN : N ≤ 8) (hl : 15 + 4 * N + (if rd1 l 0 = 1 then 4 else 0) ≤ l.length) (hl2 : l.length ≤ 4294967296) :
  Calls Tryz.prog 86 #[.pointer (some ⟨b, 0, none⟩), .int .i64 N] w fun e' w' => ∃ g, e' = .returned (.agg #[.int .u8 (rd1 l 0), .int .u8 (rd1 l 1), .int .u32 (rd4 l 2), .int .u32 (rd4 l 6), .slice (some ⟨g, 0, none⟩) N N, .int .u32 (rd4 l (10 + 4 * N)), .int .u8 (rd1 l (14 + 4 * N)), .int .i32 (if rd1 l 0 = 1 then IntKind.i32.wrap (rd4 l (15 + 4 * N)) else 0)]) ∧
   w'.heap[g]? = some (.cells (u32s (seenOf N l)) 63 (0, 0)) ∧ w.heap.size ≤ g ∧ ReaderAt w' b l (15 + 4 * N + (if rd1 l 0 = 1 then 4 else 0)) ∧ Kept (fun k => k = b) w w' := by
 obtain ⟨i0, hi, hz0, hz1, hz2⟩ := info_parts info_u32
 have hmk : ∀ w : World, (Instr.makeSlice 80 (.int .i64 N) (.int .i64 N)).run Tryz.prog w = .ok (.slice (some ⟨w.heap.size, 0, none⟩) N N) (w.alloc (.cells (u32s (List.replicate N 0)) 63)) := fun w => by
  rw [run_make w 80 63 i0 (.int .u32 0) Tryz.underlying80 hi hz0 .i64 .i64 N N (by omega) (by omega) (by rw [hz2]; omega) (by omega), hz1, ← made_zeros]; rfl
 clear hi hz0 hz1 hz2
 have hbw := lt_of_heap h
 go_enter Tryz.func86, Tryz.ntmps86
 go_wp2_with fail
 have T0 := OSt.start h
 clear h
 refine (rdOne_any b l 0 _ T0.reader (by omega) hl2).mono ?_
 rintro e1 w1 ⟨rfl, hR1, hK1⟩
 have S1 := T0.call hR1 hK1
 have y1 : w1.cell? ⟨w.heap.size + 1, 0, none⟩ = _ := S1.cell 0
 have f1 := S1.fz
 have z1 := S1.lt2
 have T1 := S1.store 0 (.int .u8 (rd1 l 0))
 clear hR1 hK1 T0 S1
 go_wp2_with fail
 refine (rdOne_any b l 1 _ T1.reader (by omega) hl2).mono ?_
 rintro e2 w2 ⟨rfl, hR2, hK2⟩
 have S2 := T1.call hR2 hK2
 have y2 : w2.cell? ⟨w.heap.size + 1, 1, none⟩ = _ := S2.cell 1
 have f2 := S2.fz
 have z2 := S2.lt2
 have T2 := S2.store 1 (.int .u8 (rd1 l 1))
 clear hR2 hK2 T1 S2
 go_wp2_with fail
 refine (rdFour_any b l 2 _ T2.reader (by omega) hl2).mono ?_
 rintro e3 w3 ⟨rfl, hR3, hK3⟩
 have S3 := T2.call hR3 hK3
 have y3 : w3.cell? ⟨w.heap.size + 1, 2, none⟩ = _ := S3.cell 2
 have f3 := S3.fz
 have z3 := S3.lt2
 have T3 := S3.store 2 (.int .u32 (rd4 l 2))
 clear hR3 hK3 T2 S3
 go_wp2_with fail
 refine (rdFour_any b l 6 _ T3.reader (by omega) hl2).mono ?_
 rintro e4 w4 ⟨rfl, hR4, hK4⟩
 have S4 := T3.call hR4 hK4
 have y4 : w4.cell? ⟨w.heap.size + 1, 3, none⟩ = _ := S4.cell 3
 have y4b : w4.cell? ⟨w.heap.size + 1, 4, none⟩ = some (.slice none 0 0) := S4.cell 4
 have f4 := S4.fz
 have z4 := S4.lt2
 obtain ⟨g, hg⟩ : ∃ g, w4.heap.size = g := ⟨_, rfl⟩
 have T4 := ((S4.store 3 (.int .u32 (rd4 l 6))).store 4 (.slice (some ⟨g, 0, none⟩) N N)).alloc (.cells (u32s (List.replicate N 0)) 63)
 have hgb : b < g := by have := S4.lt; have := S4.kept.size; omega
 have hgw : w.heap.size + 1 < g := by omega
 have G4 : (((w4.setCell ⟨w.heap.size + 1, 3, none⟩ (.int .u32 (rd4 l 6))).setCell ⟨w.heap.size + 1, 4, none⟩ (.slice (some ⟨g, 0, none⟩) N N)).alloc (.cells (u32s (List.replicate N 0)) 63)).heap[g]? = some (.cells (u32s (filled (seenOf N l) 0)) 63 (0, 0)) := by
  have := heap_alloc_new ((w4.setCell ⟨w.heap.size + 1, 3, none⟩ (.int .u32 (rd4 l 6))).setCell ⟨w.heap.size + 1, 4, none⟩ (.slice (some ⟨g, 0, none⟩) N N)) (.cells (u32s (List.replicate N 0)) 63)
  have h2 : ((w4.setCell ⟨w.heap.size + 1, 3, none⟩ (.int .u32 (rd4 l 6))).setCell ⟨w.heap.size + 1, 4, none⟩ (.slice (some ⟨g, 0, none⟩) N N)).heap.size = g := by simp [World.setCell]; exact hg
  rw [h2] at this
  rw [this, filled_zero]; simp [seenOf]
 clear hR4 hK4 T3 S4 y1 f1 z1 y2 f2 z2 y3 f3 z3
 simp only [List.setIfInBounds_toArray, List.set_cons_zero, List.set_cons_succ] at T4
 obtain ⟨W4, hW4⟩ : ∃ W4, W4 = (((w4.setCell ⟨w.heap.size + 1, 3, none⟩ (.int .u32 (rd4 l 6))).setCell ⟨w.heap.size + 1, 4, none⟩ (.slice (some ⟨g, 0, none⟩) N N)).alloc (.cells (u32s (List.replicate N 0)) 63)) := ⟨_, rfl⟩
 rw [← hW4] at T4 G4
 go_wp2
 go_loopw [25] (fun i wr => ∃ k : Nat, k ≤ N ∧ i = .int .i64 k ∧ OSt w wr b l (10 + 4 * k) #[.int .u8 (rd1 l 0), .int .u8 (rd1 l 1), .int .u32 (rd4 l 2), .int .u32 (rd4 l 6), .slice (some ⟨g, 0, none⟩) N N, .int .u32 0, .int .u8 0, .int .i32 0] ∧ wr.heap[g]? = some (.cells (u32s (filled (seenOf N l) k)) 63 (0, 0))) (fun i _ => N - (intOf i).toNat)
 case atStart =>
  rw [← hW4]
  exact ⟨0, Nat.zero_le _, rfl, T4, G4⟩
 case round =>
  clear hW4 T4 G4 y4 y4b f4 z4
  obtain ⟨k, hk, rfl, T, G⟩ := hrel
  by_cases hlt : k < N
  ·have x4 : wr.cell? ⟨w.heap.size + 1, 4, none⟩ = some (.slice (some ⟨g, 0, none⟩) N N) := T.cell 4
   have xz := T.lt2
   have gz := lt_of_heap G
   have hlen : (seenOf N l).length = N := by simp [seenOf]
   have hcall : ∀ W : World, W.heap = wr.heap → Kept (fun k => k = b) wr W → Calls Tryz.prog 87 #[.pointer (some ⟨b, 0, none⟩)] W fun e' w' => e' = .returned (.int .u32 (rd4 l (10 + 4 * k))) ∧
     Hid (OSt w (w'.setCell ⟨g, k, none⟩ (.int .u32 (rd4 l (10 + 4 * k)))) b l (10 + 4 * (k + 1)) #[.int .u8 (rd1 l 0), .int .u8 (rd1 l 1), .int .u32 (rd4 l 2), .int .u32 (rd4 l 6), .slice (some ⟨g, 0, none⟩) N N, .int .u32 0, .int .u8 0, .int .i32 0] ∧ (w'.setCell ⟨g, k, none⟩ (.int .u32 (rd4 l (10 + 4 * k)))).heap[g]? = some (.cells (u32s (filled (seenOf N l) (k + 1))) 63 (0, 0))) ∧
     w'.cell? ⟨w.heap.size + 1, 4, none⟩ = some (.slice (some ⟨g, 0, none⟩) N N) ∧ (∃ v, w'.cell? ⟨g, k, none⟩ = some v) ∧ w'.frozen? ⟨g, k, none⟩ = false ∧ g < w'.heap.size ∧ w.heap.size + 1 < w'.heap.size := fun W hW hKW => by
    have TW : ReaderAt W b l (10 + 4 * k) := by show W.heap[b]? = _; rw [hW]; exact T.reader
    refine (rdFour_any b l (10 + 4 * k) W TW (by omega) hl2).mono ?_
    rintro e' w' ⟨rfl, hR, hK⟩
    have T' := T.call hR (hKW.trans' hK)
    have G' := (hKW.trans' hK).heap G (by omega)
    have hst : OSt w (w'.setCell ⟨g, k, none⟩ (.int .u32 (rd4 l (10 + 4 * k)))) b l (10 + 4 * (k + 1)) #[.int .u8 (rd1 l 0), .int .u8 (rd1 l 1), .int .u32 (rd4 l 2), .int .u32 (rd4 l 6), .slice (some ⟨g, 0, none⟩) N N, .int .u32 0, .int .u8 0, .int .i32 0] := by
     have kk : Kept (fun k => k = g) w' (w'.setCell ⟨g, k, none⟩ (.int .u32 (rd4 l (10 + 4 * k)))) := Kept.setCell (S := fun k => k = g) (Kept.refl _ w') (p := ⟨g, k, none⟩) (fun _ => rfl) _
     exact ⟨kk.heap T'.reader (by omega), T'.kept.setCell (fun h => by simp at h; omega) _, kk.heap T'.box (by omega), kk.heap T'.res (by omega), T'.lt⟩
    refine ⟨rfl, ⟨hst, ?_⟩, T'.cell 4, ?_, Lib.frozen_of_heap G' k, lt_of_heap G', T'.lt2⟩
    ·rw [heap_set_same G', filled_succ (seenOf N l) k (rd4 l (10 + 4 * k)) (by simp [seenOf, hlt])]
     simp [u32s, List.map_set]
    ·rw [Lib.cell_of_heap G']
     exact ⟨_, Array.getElem?_eq_getElem (by simp [u32s, filled_length (seenOf N l) k (by omega), hlen]; exact hlt)⟩
   have HT : Hid (OSt w wr b l (10 + 4 * k) #[.int .u8 (rd1 l 0), .int .u8 (rd1 l 1), .int .u32 (rd4 l 2), .int .u32 (rd4 l 6), .slice (some ⟨g, 0, none⟩) N N, .int .u32 0, .int .u8 0, .int .i32 0] ) := T
   clear T G
   go_wp2
   go_region_with (go_at_call 87; refine (hcall _ (by rfl) (by exact ⟨rfl, rfl, rfl, Nat.le_refl _, fun _ _ _ => rfl⟩)).mono ?_; rintro e5 w5 ⟨rfl, hH, q1, ⟨v5, q2⟩, q3, q4, q5⟩)
   all_goals
    go_wp2
    go_roundw
    case rel => exact ⟨k + 1, by omega, by go_num, hH.out.1, hH.out.2⟩
    case measure => simp [intOf]; omega
  ·have hkN : k = N := by omega
   subst hkN
   rw [show filled (seenOf k l) k = seenOf k l by have := filled_all (seenOf k l); simpa [seenOf] using this] at G
   have KG : Kept (fun j => j = b ∨ j = w.heap.size + 1) wr wr := Kept.refl _ _
   go_wp2_with fail
   refine (rdFour_any b l (10 + 4 * k) _ T.reader (by omega) hl2).mono ?_
   rintro e5 w5 ⟨rfl, hR5, hK5⟩
   have S5 := T.call hR5 hK5
   have y5 : w5.cell? ⟨w.heap.size + 1, 5, none⟩ = some (.int .u32 0) := S5.cell 5
   have f5 := S5.fz
   have z5 := S5.lt2
   have T5 := S5.store 5 (.int .u32 (rd4 l (10 + 4 * k)))
   have K5 : Kept (fun j => j = b ∨ j = w.heap.size + 1) wr (w5.setCell ⟨w.heap.size + 1, 5, none⟩ (.int .u32 (rd4 l (10 + 4 * k)))) := Kept.setCell (S := fun j => j = b ∨ j = w.heap.size + 1) (hK5.mono (fun _ _ h => Or.inl h)) (p := ⟨w.heap.size + 1, 5, none⟩) (fun _ => Or.inr rfl) _
   clear hR5 hK5 S5 T KG
   go_wp2_with fail
   refine (rdOne_any b l (10 + 4 * k + 4) _ T5.reader (by omega) hl2).mono ?_
   rintro e6 w6 ⟨rfl, hR6, hK6⟩
   have S6 := T5.call hR6 hK6
   have y60 : w6.cell? ⟨w.heap.size + 1, 0, none⟩ = some (.int .u8 (rd1 l 0)) := S6.cell 0
   have y6 : w6.cell? ⟨w.heap.size + 1, 6, none⟩ = some (.int .u8 0) := S6.cell 6
   have f6 := S6.fz
   have z6 := S6.lt2
   have T6 := S6.store 6 (.int .u8 (rd1 l (10 + 4 * k + 4)))
   have K6 : Kept (fun j => j = b ∨ j = w.heap.size + 1) wr (w6.setCell ⟨w.heap.size + 1, 6, none⟩ (.int .u8 (rd1 l (10 + 4 * k + 4)))) := Kept.setCell (S := fun j => j = b ∨ j = w.heap.size + 1) (K5.trans hK6 (fun _ _ h => Or.inl h)) (p := ⟨w.heap.size + 1, 6, none⟩) (fun _ => Or.inr rfl) _
   simp only [List.setIfInBounds_toArray, List.set_cons_zero, List.set_cons_succ] at T6
   simp only [List.setIfInBounds_toArray, List.set_cons_zero, List.set_cons_succ] at S6
   have HS6 : Hid (OSt w w6 b l (10 + 4 * k + 4 + 1) #[.int .u8 (rd1 l 0), .int .u8 (rd1 l 1), .int .u32 (rd4 l 2), .int .u32 (rd4 l 6), .slice (some ⟨g, 0, none⟩) k k, .int .u32 (rd4 l (10 + 4 * k)), .int .u8 0, .int .i32 0]) := S6
   clear hR6 hK6 S6 T5 K5 y5 f5 z5
   by_cases hkd : rd1 l 0 = 1
   ·rw [if_pos hkd] at hl
    have hkd2 : ((rd1 l 0 : Nat) : Int) = 1 := by omega
    have HKD : Hid (rd1 l 0 = 1) := hkd
    clear hkd
    go_wp2_with fail
    refine (rdFour_any b l (10 + 4 * k + 4 + 1) _ T6.reader (by omega) hl2).mono ?_
    rintro e7 w7 ⟨rfl, hR7, hK7⟩
    have S7 := T6.call hR7 hK7
    have f7 := S7.fz
    have z7 := S7.lt2
    obtain ⟨q0, q1, q2, q3, q4, q5, q6, q7⟩ := S7.cells8
    obtain ⟨p0, p1, p2, p3, p4, p5, p6, p7, pf⟩ := S7.res8
    have T7 := S7.store 7 (.int .i32 (IntKind.i32.wrap (rd4 l (10 + 4 * k + 4 + 1))))
    have K7 : Kept (fun j => j = b ∨ j = w.heap.size + 1) wr (w7.setCell ⟨w.heap.size + 1, 7, none⟩ (.int .i32 (IntKind.i32.wrap (rd4 l (10 + 4 * k + 4 + 1))))) := Kept.setCell (S := fun j => j = b ∨ j = w.heap.size + 1) (K6.trans hK7 (fun _ _ h => Or.inl h)) (p := ⟨w.heap.size + 1, 7, none⟩) (fun _ => Or.inr rfl) _
    clear hR7 hK7 S7 T6 K6 y6 y60 f6 z6
    have hr4 := rd4_lt l (10 + 4 * k + 4 + 1) (by omega)
    go_wp2
    refine bodyPost_ret (v := .agg #[.int .u8 1, .int .u8 (rd1 l 1), .int .u32 (rd4 l 2), .int .u32 (rd4 l 6), .slice (some ⟨g, 0, none⟩) k k, .int .u32 (rd4 l (10 + 4 * k)), .int .u8 (rd1 l (10 + 4 * k + 4)), .int .i32 (IntKind.i32.wrap (rd4 l (10 + 4 * k + 4 + 1)))]) (by simp [results, Tryz.results86, go_sem, p0, p1, p2, p3, p4, p5, p6, p7, pf]; exact (IntWalk.i32_left _).symm) rfl ?_
    have n1 : 10 + 4 * k + 4 = 14 + 4 * k := by omega
    have n2 : 10 + 4 * k + 4 + 1 = 15 + 4 * k := by omega
    refine ⟨g, by rw [n2, n1], T7.fin (K7.heap G (by omega)) (by omega) (by omega) ?_⟩
    iterate 8 refine Kept.setCell (S := fun j => j = w.heap.size) ?_ (fun _ => rfl) _
    rw [IntWalk.i32_left]
    exact Kept.refl _ _
   ·rw [if_neg hkd] at hl
    have hkd2 : ¬ ((rd1 l 0 : Nat) : Int) = 1 := by omega
    have HKD : Hid (¬ rd1 l 0 = 1) := hkd
    obtain ⟨q0, q1, q2, q3, q4, q5, q6, q7⟩ := HS6.out.cells8
    obtain ⟨p0, p1, p2, p3, p4, p5, p6, p7, pf⟩ := HS6.out.res8
    clear hkd y6 y60
    go_wp2
    refine bodyPost_ret (v := .agg #[.int .u8 (rd1 l 0), .int .u8 (rd1 l 1), .int .u32 (rd4 l 2), .int .u32 (rd4 l 6), .slice (some ⟨g, 0, none⟩) k k, .int .u32 (rd4 l (10 + 4 * k)), .int .u8 (rd1 l (10 + 4 * k + 4)), .int .i32 0]) (by simp [results, Tryz.results86, go_sem, p0, p1, p2, p3, p4, p5, p6, p7, pf]) rfl ?_
    have n1 : 10 + 4 * k + 4 = 14 + 4 * k := by omega
    refine ⟨g, by rw [n1], T6.fin (K6.heap G (by omega)) (by omega) (by omega) ?_⟩
    iterate 8 refine Kept.setCell (S := fun j => j = w.heap.size) ?_ (fun _ => rfl) _
    exact Kept.refl _ _
def namedB (N tc tp : Nat) : Bool := decide (0 < tc) && decide (tp < N)
def rightB (kd p n c : Nat) (seen : List Nat) (tc tp : Nat) (ch : Int) : Bool :=
 decide (p < seen.length ∧ n ≠ 0 ∧ c ≠ 0 ∧ seen.getD p 0 + 1 = n) &&
  (if kd = 1 then Lib.validRune ch && (namedB seen.length tc tp || (decide (tc = 0) && decide (tp = 0))) else namedB seen.length tc tp)
theorem rightB_false1 {kd p n c : Nat} {seen : List Nat} {tc tp : Nat} {ch : Int} (h : ¬ (p < seen.length ∧ n ≠ 0 ∧ c ≠ 0 ∧ seen.getD p 0 + 1 = n)) : rightB kd p n c seen tc tp ch = false := by
 unfold rightB; rw [decide_eq_false h]; rfl
theorem rightB_true1 {kd p n c : Nat} {seen : List Nat} {tc tp : Nat} {ch : Int} (h : p < seen.length ∧ n ≠ 0 ∧ c ≠ 0 ∧ seen.getD p 0 + 1 = n) : rightB kd p n c seen tc tp ch = (if kd = 1 then Lib.validRune ch && (namedB seen.length tc tp || (decide (tc = 0) && decide (tp = 0))) else namedB seen.length tc tp) := by
 unfold rightB; rw [decide_eq_true h]; rfl
set_option maxHeartbeats 1000000 in
theorem opRight_any (kd p n c : Nat) (seen : List Nat) (g cap tc tp : Nat) (ch : Int) (w : World) (hkd : kd < 256) (hp : p < 256) (hn : n < 4294967296) (hc : c < 4294967296) (htc : tc < 4294967296) (htp : tp < 256) (hsl : seen.length ≤ 8) (hsf : ∀ x ∈ seen, x < 4294967296)
  (hs : ∀ (i x : Nat), seen[i]? = some x → w.cell? ⟨g, i, none⟩ = some (.int .u32 (x : Int))) :
  Calls Tryz.prog 88 #[.agg #[.int .u8 kd, .int .u8 p, .int .u32 n, .int .u32 c, .slice (some ⟨g, 0, none⟩) seen.length cap, .int .u32 tc, .int .u8 tp, .int .i32 ch]] w fun e' w' =>
   e' = .returned (.bool (rightB kd p n c seen tc tp ch)) ∧ Kept (fun _ => False) w w' := by
 by_cases h1 : seen.length ≤ p
 ·have HB : Hid (rightB kd p n c seen tc tp ch = false) := rightB_false1 (by omega)
  have e1 : (seen.length : Int) ≤ (p : Int) := by omega
  have e2 : decide ((seen.length : Int) ≤ (p : Int)) = true := by simpa using e1
  clear h1
  go_enter Tryz.func88, Tryz.ntmps88
  go_wp2
  go_ret
  exact ⟨ret_bool HB.out.symm, (Kept.refl _ _).alloc _⟩
 ·by_cases h2 : n = 0
  ·have HB : Hid (rightB kd p n c seen tc tp ch = false) := rightB_false1 (by omega)
   subst h2
   go_enter Tryz.func88, Tryz.ntmps88
   go_wp2
   go_ret
   exact ⟨ret_bool HB.out.symm, (Kept.refl _ _).alloc _⟩
  ·by_cases h3 : c = 0
   ·have HB : Hid (rightB kd p n c seen tc tp ch = false) := rightB_false1 (by omega)
    have e2 : ((n : Int) == 0) = false := by simpa using h2
    subst h3
    go_enter Tryz.func88, Tryz.ntmps88
    go_wp2
    go_ret
    exact ⟨ret_bool HB.out.symm, (Kept.refl _ _).alloc _⟩
   ·have e2 : ((n : Int) == 0) = false := by simpa using h2
    have e3 : ((c : Int) == 0) = false := by simpa using h3
    obtain ⟨x, hx⟩ : ∃ x, seen[p]? = some x := ⟨_, List.getElem?_eq_getElem (by omega)⟩
    have hxf := hsf x (List.mem_of_getElem? hx)
    have hxg : seen.getD p 0 = x := by rw [List.getD_eq_getElem?_getD, hx]; rfl
    have c0 := hs p x hx
    have hpl : (p : Int) < (seen.length : Int) := by omega
    by_cases h4 : x + 1 = n
    ·have e4 : ((x : Int) == (n : Int) - 1) = true := by simp; omega
     have e5 : (x : Int) = (n : Int) - 1 := by omega
     have HB : Hid (rightB kd p n c seen tc tp ch = _) := rightB_true1 ⟨by omega, h2, h3, by rw [hxg]; exact h4⟩
     have hgw := World.block_lt_of_cell? w _ c0
     clear hx hxg hs hsf h2 h3
     by_cases hk1 : kd = 1
     ·subst hk1
      rw [if_pos rfl] at HB
      go_enter Tryz.func88, Tryz.ntmps88
      go_wp2
      go_quiet (fail)
      go_wp2_with fail
      all_goals
       refine (Tryz.utf8_ValidRune ch _).mono ?_
       rintro e1 w1 ⟨rfl, rfl⟩
       cases hv : Lib.validRune ch
      all_goals go_wp2
      all_goals go_ret
      all_goals refine ⟨ret_bool ?_, ?_⟩
      all_goals first
       | exact ((Kept.refl _ _).alloc _).drewN _
       | (rw [HB.out, hv]; rfl)
       | (rw [HB.out, hv]; simp [namedB]; omega)
       | (rw [HB.out, hv]; simp [namedB, *]; done)
       | (rw [HB.out, hv]; simp [namedB, *]; omega)
     ·rw [if_neg hk1] at HB
      have e6 : ((kd : Int) == 1) = false := by simp; omega
      have e7 : ¬ (kd : Int) = 1 := by omega
      clear hk1
      go_enter Tryz.func88, Tryz.ntmps88
      go_wp2
      go_quiet (fail)
      go_wp2
      all_goals go_ret
      all_goals exact ⟨ret_bool (by rw [HB.out]; simp [namedB, *]), ((Kept.refl _ _).alloc _).drewN _⟩
    ·have e4 : ((x : Int) == (n : Int) - 1) = false := by simp; omega
     have e5 : ¬ (x : Int) = (n : Int) - 1 := by omega
     have HB : Hid (rightB kd p n c seen tc tp ch = false) := rightB_false1 (by rw [hxg]; omega)
     have hgw := World.block_lt_of_cell? w _ c0
     clear hx hxg hs hsf h2 h3 h4
     go_enter Tryz.func88, Tryz.ntmps88
     go_wp2
     go_quiet (fail)
     go_wp2
     go_ret
     exact ⟨ret_bool HB.out.symm, ((Kept.refl _ _).alloc _).drewN _⟩
end Go.Proofs.YtgfafbanahiigaaGreat
