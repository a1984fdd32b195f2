import Derived.Test.YtgfafbanahiigaaGreatVC
import Derived.Test.YtgfafbanahiigaaGreatM9
import Derived.Lib.ConvBytes
import Derived.Test.YtgfafbanahiigaaGreatW8
set_option linter.unusedVariables false
set_option linter.unusedSimpArgs false
namespace Go.Proofs.YtgfafbanahiigaaGreat
open Go.RowKit Go.Chorus
theorem valid_iff (c : Int) : Lib.validRune c = true ↔ (0 ≤ c ∧ c < 55296) ∨ (57344 ≤ c ∧ c ≤ 1114111) := by
 unfold Lib.validRune
 simp
 omega
theorem right_iff (l : List UInt8) (N E : Nat) (hN : N ≤ 8) (hk : rd1 l 0 = 1 ∨ rd1 l 0 = 2) (hsz : l.length = sizeB (rd1 l 0) N) (hE : E + 4 = l.length) :
  Right N l ↔ sumFrom (l.take E) 0 = rd4 l E ∧ rightB (rd1 l 0) (rd1 l 1) (rd4 l 2) (rd4 l 6) (seenOf N l) (rd4 l (10 + 4 * N)) (rd1 l (14 + 4 * N)) (if rd1 l 0 = 1 then IntKind.i32.wrap (rd4 l (15 + 4 * N)) else 0) = true := by
 have hEe : l.length - 4 = E := by omega
 have hsl : (seenOf N l).length = N := by simp [seenOf]
 have hsn : sn (fieldsOf N l) (fieldsOf N l).peer = (seenOf N l).getD (rd1 l 1) 0 := rfl
 have hw : ∀ n : Nat, n < 4294967296 → ((Lib.validRune (IntKind.i32.wrap (n : Int)) = true) ↔ okChar n) := by
  intro n hn
  rw [valid_iff, IntKind.wrap_i32]
  unfold okChar
  omega
 unfold rightB namedB
 rw [hsl, Bool.and_eq_true, decide_eq_true_iff]
 rcases hk with h | h
 ·have hl : l.length = 23 + 4 * N := by rw [hsz, h]; rfl
  have hlt := rd4_lt l (15 + 4 * N) (by omega)
  have hc : (fieldsOf N l).char = rd4 l (15 + 4 * N) := by show (if rd1 l 0 = 1 then _ else _) = _; rw [if_pos h]
  have hi : (fieldsOf N l).ins = true := by show decide (rd1 l 0 = 1) = true; simpa using h
  rw [if_pos h, if_pos h, Bool.and_eq_true, hw _ hlt]
  simp only [Bool.or_eq_true, Bool.and_eq_true, decide_eq_true_iff]
  constructor
  ·intro r
   have r1 := r.begin_
   have r2 := r.npeer
   refine ⟨by rw [← hEe]; exact r.sum, ⟨r.peer, by have := r.num; show rd4 l 2 ≠ 0; have h2 : (fieldsOf N l).num = rd4 l 2 := rfl; omega, by have := r.clock; have h2 : (fieldsOf N l).clock = rd4 l 6 := rfl; omega, by rw [← hsn]; exact r.own⟩, by rw [← hc]; exact r.char hi, ?_⟩
   by_cases h0 : rd4 l (10 + 4 * N) = 0
   ·right; exact ⟨h0, (r1 h0).2⟩
   ·left; exact ⟨by omega, r2⟩
  ·rintro ⟨h1, ⟨h2, h3, h4, h5⟩, h6, h7⟩
   refine ⟨Or.inl ⟨h, hl⟩, h2, by show 1 ≤ rd4 l 2; omega, by show 1 ≤ rd4 l 6; omega, by rw [hsn]; exact h5, ?_, ?_, fun _ => by rw [hc]; exact h6, by rw [hEe]; exact h1⟩
   ·rcases h7 with h7 | h7
    ·exact h7.2
    ·show rd1 l (14 + 4 * N) < N; omega
   ·intro h0
    have h0 : rd4 l (10 + 4 * N) = 0 := h0
    rcases h7 with h7 | h7
    ·omega
    ·exact ⟨hi, h7.2⟩
 ·have hl : l.length = 19 + 4 * N := by rw [hsz, h]; rfl
  have hn1 : ¬ rd1 l 0 = 1 := by omega
  have hi : (fieldsOf N l).ins = false := by show decide (rd1 l 0 = 1) = false; simpa using hn1
  rw [if_neg hn1]
  simp only [Bool.and_eq_true, decide_eq_true_iff]
  constructor
  ·intro r
   have r1 := r.begin_
   refine ⟨by rw [← hEe]; exact r.sum, ⟨r.peer, by have := r.num; have h2 : (fieldsOf N l).num = rd4 l 2 := rfl; omega, by have := r.clock; have h2 : (fieldsOf N l).clock = rd4 l 6 := rfl; omega, by rw [← hsn]; exact r.own⟩, ?_, r.npeer⟩
   by_cases h0 : rd4 l (10 + 4 * N) = 0
   ·have := (r1 h0).1; rw [hi] at this; cases this
   ·omega
  ·rintro ⟨h1, ⟨h2, h3, h4, h5⟩, h6, h7⟩
   refine ⟨Or.inr ⟨h, hl⟩, h2, by show 1 ≤ rd4 l 2; omega, by show 1 ≤ rd4 l 6; omega, by rw [hsn]; exact h5, h7, ?_, fun hh => by (rw [hi] at hh; cases hh), by rw [hEe]; exact h1⟩
   intro h0
   have h0 : rd4 l (10 + 4 * N) = 0 := h0
   omega
theorem right_agg (l : List UInt8) (N : Nat) (hr : Right N l) (hN : N ≤ 8) : rd1 l 0 = (fieldsOf N l).kind ∧ (if rd1 l 0 = 1 then IntKind.i32.wrap (rd4 l (15 + 4 * N)) else 0) = ((fieldsOf N l).char : Int) := by
 rcases hr.size with ⟨h, hl⟩ | ⟨h, hl⟩
 ·have hi : (fieldsOf N l).ins = true := by show decide (rd1 l 0 = 1) = true; simpa using h
  have hc : (fieldsOf N l).char = rd4 l (15 + 4 * N) := by show (if rd1 l 0 = 1 then _ else _) = _; rw [if_pos h]
  have hk := hr.char hi
  refine ⟨by rw [h]; unfold Ope.kind; rw [hi]; rfl, ?_⟩
  rw [if_pos h, hc, IntKind.wrap_i32]
  rw [hc] at hk
  unfold okChar at hk
  omega
 ·have hn1 : ¬ rd1 l 0 = 1 := by omega
  have hi : (fieldsOf N l).ins = false := by show decide (rd1 l 0 = 1) = false; simpa using hn1
  have hc : (fieldsOf N l).char = 0 := by show (if rd1 l 0 = 1 then _ else _) = _; rw [if_neg hn1]
  exact ⟨by rw [h]; unfold Ope.kind; rw [hi]; rfl, by rw [if_neg hn1, hc]; rfl⟩
end Go.Proofs.YtgfafbanahiigaaGreat
set_option linter.unusedVariables false
set_option linter.unusedSimpArgs false
namespace Go.Proofs.YtgfafbanahiigaaGreat
open Go.RowKit Go.Chorus
theorem kept_bytesWorld (W : World) (e : TypeId) (S : ByteArray) : Kept (fun _ => False) W (Lib.bytesWorld W e S) :=
 ⟨rfl, rfl, rfl, by rw [Lib.bytesWorld_size]; omega, fun k hk _ => Lib.bytesWorld_at_old W e S k hk⟩
theorem extract_list (l : List UInt8) (E : Nat) : ((⟨l.toArray⟩ : ByteArray).extract 0 E).data.toList = l.take E := by
 rw [ByteArray.data_extract]; simp
set_option maxHeartbeats 1000000 in
set_option maxRecDepth 100000 in
theorem read_any (l : List UInt8) (N : Nat) (w : World) (hN1 : 1 ≤ N) (hN : N ≤ 8) :
  Calls Tryz.prog 62 #[.string ⟨l.toArray⟩, .int .i64 N] w fun e' w' => Kept (fun _ => False) w w' ∧
   ((¬ Right N l ∧ e' = .returned (.tuple #[.agg #[.int .u8 0, .int .u8 0, .int .u32 0, .int .u32 0, .slice none 0 0, .int .u32 0, .int .u8 0, .int .i32 0], .bool false])) ∨
    (Right N l ∧ ∃ g, e' = .returned (.tuple #[.agg #[.int .u8 (fieldsOf N l).kind, .int .u8 (fieldsOf N l).peer, .int .u32 (fieldsOf N l).num, .int .u32 (fieldsOf N l).clock, .slice (some ⟨g, 0, none⟩) N N, .int .u32 (fieldsOf N l).nclock, .int .u8 (fieldsOf N l).npeer, .int .i32 (fieldsOf N l).char], .bool true]) ∧ w'.heap[g]? = some (.cells (u32s (fieldsOf N l).seen) 63 (0, 0)) ∧ w.heap.size ≤ g)) := by
 by_cases h0 : l = []
 ·have hnr : Hid (¬ Right N l) := by rw [h0]; exact spoilt_nil
  subst h0
  go_enter Tryz.func62, Tryz.ntmps62
  go_wp2
  refine bodyPost_ret (v := .tuple #[.agg #[.int .u8 0, .int .u8 0, .int .u32 0, .int .u32 0, .slice none 0 0, .int .u32 0, .int .u8 0, .int .i32 0], .bool false]) (by simp [results, Tryz.results62, go_sem]) rfl ?_
  exact ⟨(Kept.refl _ _).alloc _, Or.inl ⟨hnr.out, rfl⟩⟩
 ·have hl0 : 0 < l.length := by cases l with | nil => exact absurd rfl h0 | cons a r => simp
  have e0 : ((l.length : Int) == 0) = false := by simp; exact h0
  have hd : Hid (rd1 l 0 = l[0].toNat) := by
   show rd1 l 0 = _
   unfold rd1; rw [List.getD_eq_getElem?_getD, List.getElem?_eq_getElem hl0]; rfl
  go_enter Tryz.func62, Tryz.ntmps62
  go_wp2_with fail
  refine (opSize_any l[0].toNat N (UInt8.toNat_lt _) hN _).mono ?_
  rintro e1 w1 ⟨rfl, rfl⟩
  rw [← hd.out]
  by_cases hsz : l.length = sizeB (rd1 l 0) N
  ·rw [← hsz]
   have hkd : rd1 l 0 = 1 ∨ rd1 l 0 = 2 := by
    unfold sizeB at hsz
    split at hsz
    ·left; assumption
    ·split at hsz
     ·right; assumption
     ·omega
   have HSZ : Hid (l.length = sizeB (rd1 l 0) N) := hsz
   clear hsz
   have hE : 15 + 4 * N + (if rd1 l 0 = 1 then 4 else 0) + 4 = l.length := by
    rw [HSZ.out]; unfold sizeB
    rcases hkd with h | h <;> rw [h] <;> simp <;> omega
   have hl : l.length ≤ 4294967296 := by rw [← hE]; split <;> omega
   obtain ⟨E, hEq⟩ : ∃ E, 15 + 4 * N + (if rd1 l 0 = 1 then 4 else 0) = E := ⟨_, rfl⟩
   go_wp2_with fail
   have hRd : ReaderAt ((w.alloc (.cells #[.int .u8 0, .int .u8 0, .int .u32 0, .int .u32 0, .slice none 0 0, .int .u32 0, .int .u8 0, .int .i32 0] 115)).alloc (.cells #[.string ⟨l.toArray⟩, .int .i64 0] 152)) (w.heap.size + 1) l 0 := by
    have := heap_alloc_new (w.alloc (.cells #[.int .u8 0, .int .u8 0, .int .u32 0, .int .u32 0, .slice none 0 0, .int .u32 0, .int .u8 0, .int .i32 0] 115)) (.cells #[.string ⟨l.toArray⟩, .int .i64 0] 152)
    show (World.heap _)[w.heap.size + 1]? = _
    simpa using this
   refine (rdOp_any (w.heap.size + 1) l N _ hRd hN1 hN (by omega) hl).mono ?_
   rintro e2 w2 ⟨g, rfl, hG, hgw, hR2, hK2⟩
   rw [hEq] at hR2 hE
   have hkw : Kept (fun _ => False) w w2 := (((Kept.refl (fun _ => False) w).alloc _).alloc _).trans hK2 (fun i hi h => by omega)
   have hres : w2.heap[w.heap.size]? = some (.cells #[.int .u8 0, .int .u8 0, .int .u32 0, .int .u32 0, .slice none 0 0, .int .u32 0, .int .u8 0, .int .i32 0] 115 (0, 0)) := by
    refine hK2.heap ?_ (by omega)
    rw [Below.heap_alloc _ _ _ (by simp)]; exact heap_alloc_new w _
   have hgw2 : w.heap.size + 2 ≤ g := by simpa using hgw
   have r0 : w2.cell? ⟨w.heap.size + 1, 0, none⟩ = some (.string ⟨l.toArray⟩) := by rw [Lib.cell_of_heap hR2]; rfl
   have r1 : w2.cell? ⟨w.heap.size + 1, 1, none⟩ = some (.int .i64 E) := by rw [Lib.cell_of_heap hR2]; rfl
   have rz := lt_of_heap hR2
   have HE : Hid (E + 4 = l.length) := hE
   have HEq : Hid (15 + 4 * N + (if rd1 l 0 = 1 then 4 else 0) = E) := hEq
   have hEl : E ≤ l.length := by omega
   clear hRd hK2 hE hEq hgw
   generalize hCH : (if rd1 l 0 = 1 then IntKind.i32.wrap (rd4 l (15 + 4 * N)) else 0) = CH
   obtain ⟨S, hS⟩ : ∃ S, (⟨l.toArray⟩ : ByteArray).extract 0 E = S := ⟨_, rfl⟩
   have hSl : S.data.toList = l.take E := by rw [← hS]; exact extract_list l E
   have hSs : S.size = E := by show S.data.size = E; rw [← Array.length_toList, hSl, List.length_take]; omega
   have hcv : ∀ W : World, (convert 9 89 (.string ((⟨l.toArray⟩ : ByteArray).extract 0 E))).run Tryz.prog W = .ok (.slice (some ⟨W.heap.size, 0, none⟩) E (grownCap W E 0 5)) (Lib.bytesWorld W 5 S) := fun W => by
    rw [hS]
    have := Lib.run_convert_string_bytes W 9 89 5 S Tryz.underlying9 Tryz.underlying89 Tryz.underlying5
    rw [hSs] at this; exact this
   obtain ⟨W2, hW2⟩ : ∃ W2, W2 = Lib.bytesWorld (w2.alloc (.cells #[.int .u8 (rd1 l 0), .int .u8 (rd1 l 1), .int .u32 (rd4 l 2), .int .u32 (rd4 l 6), .slice (some ⟨g, 0, none⟩) N N, .int .u32 (rd4 l (10 + 4 * N)), .int .u8 (rd1 l (14 + 4 * N)), .int .i32 CH] 115)) 5 S := ⟨_, rfl⟩
   have k2 : Kept (fun _ => False) w2 W2 := by rw [hW2]; exact ((Kept.refl _ w2).alloc _).trans' (kept_bytesWorld _ _ _)
   have hbox : W2.heap[w2.heap.size]? = some (.cells #[.int .u8 (rd1 l 0), .int .u8 (rd1 l 1), .int .u32 (rd4 l 2), .int .u32 (rd4 l 6), .slice (some ⟨g, 0, none⟩) N N, .int .u32 (rd4 l (10 + 4 * N)), .int .u8 (rd1 l (14 + 4 * N)), .int .i32 CH] 115 (0, 0)) := by
    rw [hW2]; exact (kept_bytesWorld _ _ _).heap (heap_alloc_new w2 _) (fun h => h)
   have hby : ∀ i b, (l.take E)[i]? = some b → W2.cell? ⟨w2.heap.size + 1, i, none⟩ = some (.int .u8 (b.toNat : Int)) := fun i b hi => by
    rw [hW2]
    have h1 := Lib.bytesWorld_cell (w2.alloc (.cells #[.int .u8 (rd1 l 0), .int .u8 (rd1 l 1), .int .u32 (rd4 l 2), .int .u32 (rd4 l 6), .slice (some ⟨g, 0, none⟩) N N, .int .u32 (rd4 l (10 + 4 * N)), .int .u8 (rd1 l (14 + 4 * N)), .int .i32 CH] 115)) 5 S i (by rw [hSs]; have := (List.getElem?_eq_some_iff.1 hi).1; rw [List.length_take] at this; omega)
    simp only [World.size_alloc] at h1
    rw [h1, hSl, List.getD_eq_getElem?_getD, hi]; rfl
   have HCH : Hid ((if rd1 l 0 = 1 then IntKind.i32.wrap (rd4 l (15 + 4 * N)) else 0) = CH) := hCH
   have HW2 : Hid (W2 = Lib.bytesWorld (w2.alloc (.cells #[.int .u8 (rd1 l 0), .int .u8 (rd1 l 1), .int .u32 (rd4 l 2), .int .u32 (rd4 l 6), .slice (some ⟨g, 0, none⟩) N N, .int .u32 (rd4 l (10 + 4 * N)), .int .u8 (rd1 l (14 + 4 * N)), .int .i32 CH] 115)) 5 S) := hW2
   clear hS hSl hSs hCH hW2
   go_wp2_with fail
   rw [← HW2.out]
   generalize grownCap _ E 0 5 = GC
   have hck := checkSum_any (some ⟨w2.heap.size + 1, 0, none⟩) GC (l.take E) W2 (fun _ => ⟨_, rfl, hby⟩) (by rw [List.length_take]; omega)
   rw [List.length_take, show min E l.length = E by omega] at hck
   refine hck.mono ?_
   rintro e3 w3 ⟨rfl, hw3⟩
   obtain rfl : W2 = w3 := hw3.symm
   have hR3 : ReaderAt W2 (w.heap.size + 1) l E := k2.heap hR2 (fun h => h)
   have hres3 := k2.heap hres (fun h => h)
   have hG3 := k2.heap hG (fun h => h)
   have hkw3 := hkw.trans' k2
   have hsz2 : w.heap.size + 1 < w2.heap.size := rz
   obtain ⟨SUM, hSUM⟩ : ∃ SUM, sumFrom (l.take E) 0 = SUM := ⟨_, rfl⟩
   have HSUM : Hid (sumFrom (l.take E) 0 = SUM) := hSUM
   rw [hSUM]
   clear hck hby HW2 r0 r1 rz hcv k2 hR2 hres hG hkw hSUM hw3
   go_wp2_with fail
   refine (rdFour_any (w.heap.size + 1) l E _ hR3 (by have := HE.out; omega) hl).mono ?_
   rintro e4 w4 ⟨rfl, hR4, hK4⟩
   have hbox4 := hK4.heap hbox (by omega)
   have hres4 := hK4.heap hres3 (by omega)
   have hG4 := hK4.heap hG3 (by omega)
   have hkw4 : Kept (fun _ => False) w w4 := hkw3.trans hK4 (fun i hi h => by omega)
   have x0 : w4.cell? ⟨w2.heap.size, 0, none⟩ = some (.int .u8 (rd1 l 0)) := by rw [Lib.cell_of_heap hbox4]; rfl
   have x1 : w4.cell? ⟨w2.heap.size, 1, none⟩ = some (.int .u8 (rd1 l 1)) := by rw [Lib.cell_of_heap hbox4]; rfl
   have x2 : w4.cell? ⟨w2.heap.size, 2, none⟩ = some (.int .u32 (rd4 l 2)) := by rw [Lib.cell_of_heap hbox4]; rfl
   have x3 : w4.cell? ⟨w2.heap.size, 3, none⟩ = some (.int .u32 (rd4 l 6)) := by rw [Lib.cell_of_heap hbox4]; rfl
   have x4 : w4.cell? ⟨w2.heap.size, 4, none⟩ = some (.slice (some ⟨g, 0, none⟩) N N) := by rw [Lib.cell_of_heap hbox4]; rfl
   have x5 : w4.cell? ⟨w2.heap.size, 5, none⟩ = some (.int .u32 (rd4 l (10 + 4 * N))) := by rw [Lib.cell_of_heap hbox4]; rfl
   have x6 : w4.cell? ⟨w2.heap.size, 6, none⟩ = some (.int .u8 (rd1 l (14 + 4 * N))) := by rw [Lib.cell_of_heap hbox4]; rfl
   have x7 : w4.cell? ⟨w2.heap.size, 7, none⟩ = some (.int .i32 CH) := by rw [Lib.cell_of_heap hbox4]; rfl
   have p0 : w4.cell? ⟨w.heap.size, 0, none⟩ = some (.int .u8 0) := by rw [Lib.cell_of_heap hres4]; rfl
   have p1 : w4.cell? ⟨w.heap.size, 1, none⟩ = some (.int .u8 0) := by rw [Lib.cell_of_heap hres4]; rfl
   have p2 : w4.cell? ⟨w.heap.size, 2, none⟩ = some (.int .u32 0) := by rw [Lib.cell_of_heap hres4]; rfl
   have p3 : w4.cell? ⟨w.heap.size, 3, none⟩ = some (.int .u32 0) := by rw [Lib.cell_of_heap hres4]; rfl
   have p4 : w4.cell? ⟨w.heap.size, 4, none⟩ = some (.slice none 0 0) := by rw [Lib.cell_of_heap hres4]; rfl
   have p5 : w4.cell? ⟨w.heap.size, 5, none⟩ = some (.int .u32 0) := by rw [Lib.cell_of_heap hres4]; rfl
   have p6 : w4.cell? ⟨w.heap.size, 6, none⟩ = some (.int .u8 0) := by rw [Lib.cell_of_heap hres4]; rfl
   have p7 : w4.cell? ⟨w.heap.size, 7, none⟩ = some (.int .i32 0) := by rw [Lib.cell_of_heap hres4]; rfl
   have pf : ∀ j, w4.frozen? ⟨w.heap.size, j, none⟩ = false := Lib.frozen_of_heap hres4
   have hz4 := lt_of_heap hbox4
   have hsn : ∀ (i x : Nat), (seenOf N l)[i]? = some x → w4.cell? ⟨g, i, none⟩ = some (.int .u32 (x : Int)) := fun i x hi => by rw [Lib.cell_of_heap hG4, u32s_at, hi]; rfl
   have hRI := right_iff l N E hN hkd HSZ.out HE.out
   rw [HCH.out, HSUM.out] at hRI
   have hsl : (seenOf N l).length = N := by simp [seenOf]
   clear hR3 hres3 hG3 hkw3 hK4 hR4 hbox hbox4 hres4
   obtain ⟨RD, hRD⟩ : ∃ RD, rd4 l E = RD := ⟨_, rfl⟩
   rw [hRD] at hRI ⊢
   by_cases hq : RD = SUM
   ·have e1 : ((RD : Int) == (SUM : Int)) = true := by rw [hq]; simp
    have e2 : (RD : Int) = (SUM : Int) := by omega
    have hRI2 : Hid (Right N l ↔ rightB (rd1 l 0) (rd1 l 1) (rd4 l 2) (rd4 l 6) (seenOf N l) (rd4 l (10 + 4 * N)) (rd1 l (14 + 4 * N)) CH = true) := by
     show _ ↔ _
     rw [hRI]; exact ⟨fun h => h.2, fun h => ⟨hq.symm, h⟩⟩
    clear hRI hq hRD
    go_wp2_with fail
    have hor := opRight_any (rd1 l 0) (rd1 l 1) (rd4 l 2) (rd4 l 6) (seenOf N l) g N (rd4 l (10 + 4 * N)) (rd1 l (14 + 4 * N)) CH w4 (UInt8.toNat_lt _) (UInt8.toNat_lt _) (rd4_lt l 2 (by have := HE.out; have := HEq.out; omega)) (rd4_lt l 6 (by have := HE.out; have := HEq.out; omega)) (rd4_lt l (10 + 4 * N) (by have := HE.out; have := HEq.out; omega)) (UInt8.toNat_lt _) (by rw [hsl]; exact hN) (fun x hx => by
     simp only [seenOf, List.mem_map, List.mem_range] at hx
     obtain ⟨i, hi, rfl⟩ := hx
     exact rd4_lt l _ (by have := HE.out; have := HEq.out; omega)) hsn
    rw [hsl] at hor
    refine hor.mono ?_
    rintro e5 w5 ⟨rfl, hK5⟩
    have p0' := hK5.cell' p0 (fun h => h)
    have p1' := hK5.cell' p1 (fun h => h)
    have p2' := hK5.cell' p2 (fun h => h)
    have p3' := hK5.cell' p3 (fun h => h)
    have p4' := hK5.cell' p4 (fun h => h)
    have p5' := hK5.cell' p5 (fun h => h)
    have p6' := hK5.cell' p6 (fun h => h)
    have p7' := hK5.cell' p7 (fun h => h)
    have x0' := hK5.cell' x0 (fun h => h)
    have x1' := hK5.cell' x1 (fun h => h)
    have x2' := hK5.cell' x2 (fun h => h)
    have x3' := hK5.cell' x3 (fun h => h)
    have x4' := hK5.cell' x4 (fun h => h)
    have x5' := hK5.cell' x5 (fun h => h)
    have x6' := hK5.cell' x6 (fun h => h)
    have x7' := hK5.cell' x7 (fun h => h)
    have pf' : ∀ j, w5.frozen? ⟨w.heap.size, j, none⟩ = false := fun j => by rw [hK5.frozen (p := ⟨w.heap.size, j, none⟩) (by show w.heap.size < w4.heap.size; omega) (fun h => h)]; exact pf j
    have hz5 : w2.heap.size < w5.heap.size := Nat.lt_of_lt_of_le hz4 hK5.size
    have hkw5 := hkw4.trans' hK5
    have hG5 := hK5.heap hG4 (fun h => h)
    clear p0 p1 p2 p3 p4 p5 p6 p7 x0 x1 x2 x3 x4 x5 x6 x7 pf hor hsn hK5 hkw4 hG4 hz4
    cases hrb : rightB (rd1 l 0) (rd1 l 1) (rd4 l 2) (rd4 l 6) (seenOf N l) (rd4 l (10 + 4 * N)) (rd1 l (14 + 4 * N)) CH with
    | false =>
     have hnr : Hid (¬ Right N l) := fun hr => by have := hRI2.out.1 hr; rw [hrb] at this; cases this
     clear hrb
     go_wp2
     refine bodyPost_ret (v := .tuple #[.agg #[.int .u8 0, .int .u8 0, .int .u32 0, .int .u32 0, .slice none 0 0, .int .u32 0, .int .u8 0, .int .i32 0], .bool false]) (by simp [results, Tryz.results62, go_sem, p0', p1', p2', p3', p4', p5', p6', p7', pf']) rfl ?_
     refine ⟨?_, Or.inl ⟨hnr.out, rfl⟩⟩
     iterate 8 refine Kept.setCell (S := fun _ => False) ?_ (fun h => absurd h (Nat.lt_irrefl _)) _
     exact hkw5
    | true =>
     have hr : Right N l := hRI2.out.2 hrb
     have HF : Hid _ := right_agg l N hr hN
     have HR : Hid (Right N l) := hr
     clear hrb hr
     go_wp2
     refine bodyPost_ret (v := .tuple #[.agg #[.int .u8 (rd1 l 0), .int .u8 (rd1 l 1), .int .u32 (rd4 l 2), .int .u32 (rd4 l 6), .slice (some ⟨g, 0, none⟩) N N, .int .u32 (rd4 l (10 + 4 * N)), .int .u8 (rd1 l (14 + 4 * N)), .int .i32 CH], .bool true]) (by simp [results, Tryz.results62, go_sem, p0', p1', p2', p3', p4', p5', p6', p7', pf']) rfl ?_
     have kfin : ∀ W : World, Kept (fun j => j = w.heap.size) w5 W → Kept (fun _ => False) w W ∧ W.heap[g]? = some (.cells (u32s (fieldsOf N l).seen) 63 (0, 0)) := fun W hW => ⟨hkw5.trans hW (fun i hi h => by omega), hW.heap hG5 (by omega)⟩
     have hfin : ∀ W : World, Kept (fun j => j = w.heap.size) w5 W → Kept (fun _ => False) w W ∧ ((¬ Right N l ∧ Ending.returned (.tuple #[.agg #[.int .u8 (rd1 l 0), .int .u8 (rd1 l 1), .int .u32 (rd4 l 2), .int .u32 (rd4 l 6), .slice (some ⟨g, 0, none⟩) N N, .int .u32 (rd4 l (10 + 4 * N)), .int .u8 (rd1 l (14 + 4 * N)), .int .i32 CH], .bool true]) = .returned (.tuple #[.agg #[.int .u8 0, .int .u8 0, .int .u32 0, .int .u32 0, .slice none 0 0, .int .u32 0, .int .u8 0, .int .i32 0], .bool false])) ∨ (Right N l ∧ ∃ g', Ending.returned (.tuple #[.agg #[.int .u8 (rd1 l 0), .int .u8 (rd1 l 1), .int .u32 (rd4 l 2), .int .u32 (rd4 l 6), .slice (some ⟨g, 0, none⟩) N N, .int .u32 (rd4 l (10 + 4 * N)), .int .u8 (rd1 l (14 + 4 * N)), .int .i32 CH], .bool true]) = .returned (.tuple #[.agg #[.int .u8 (fieldsOf N l).kind, .int .u8 (fieldsOf N l).peer, .int .u32 (fieldsOf N l).num, .int .u32 (fieldsOf N l).clock, .slice (some ⟨g', 0, none⟩) N N, .int .u32 (fieldsOf N l).nclock, .int .u8 (fieldsOf N l).npeer, .int .i32 (fieldsOf N l).char], .bool true]) ∧ W.heap[g']? = some (.cells (u32s (fieldsOf N l).seen) 63 (0, 0)) ∧ w.heap.size ≤ g')) := fun W hW => by
      obtain ⟨k1, k2⟩ := kfin W hW
      refine ⟨k1, Or.inr ⟨HR.out, g, ?_, k2, by omega⟩⟩
      obtain ⟨f1, f2⟩ := HF.out
      rw [HCH.out] at f2
      rw [f2, f1]
      rfl
     refine hfin _ ?_
     iterate 8 refine Kept.setCell (S := fun j => j = w.heap.size) ?_ (fun _ => rfl) _
     exact Kept.refl _ _
   ·have hnr : Hid (¬ Right N l) := fun hr => hq (hRI.1 hr).1.symm
    have e1 : ((RD : Int) == (SUM : Int)) = false := by simp; omega
    have e2 : ¬ (RD : Int) = (SUM : Int) := by omega
    clear hRI hq hRD
    go_wp2
    refine bodyPost_ret (v := .tuple #[.agg #[.int .u8 0, .int .u8 0, .int .u32 0, .int .u32 0, .slice none 0 0, .int .u32 0, .int .u8 0, .int .i32 0], .bool false]) (by simp [results, Tryz.results62, go_sem, p0, p1, p2, p3, p4, p5, p6, p7, pf]) rfl ?_
    refine ⟨?_, Or.inl ⟨hnr.out, rfl⟩⟩
    iterate 8 refine Kept.setCell (S := fun _ => False) ?_ (fun h => absurd h (Nat.lt_irrefl _)) _
    exact hkw4
  ·have hnr : Hid (¬ Right N l) := fun hr => by
    rcases hr.size with ⟨a, b⟩ | ⟨a, b⟩
    ·exact hsz (by rw [b, a]; rfl)
    ·exact hsz (by rw [b, a]; rfl)
   generalize hS : sizeB (rd1 l 0) N = S at hsz
   have e1 : ((l.length : Int) == (S : Int)) = false := by simp; omega
   have e2 : ¬ (l.length : Int) = (S : Int) := by omega
   clear hS hsz
   go_wp2
   refine bodyPost_ret (v := .tuple #[.agg #[.int .u8 0, .int .u8 0, .int .u32 0, .int .u32 0, .slice none 0 0, .int .u32 0, .int .u8 0, .int .i32 0], .bool false]) (by simp [results, Tryz.results62, go_sem]) rfl ?_
   exact ⟨(Kept.refl _ _).alloc _, Or.inl ⟨hnr.out, rfl⟩⟩
end Go.Proofs.YtgfafbanahiigaaGreat
