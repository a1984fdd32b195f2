import Derived.Test.YtgfafbanahiigaaGreatWB
import Derived.Deep.RegionWith
import Derived.BigRegion
import Derived.Deep.DeepCutAuto
set_option linter.unusedVariables false
set_option linter.unusedSimpArgs false
namespace Go.Proofs.YtgfafbanahiigaaGreat
open Go.RowKit Go.Chorus
theorem rowV_of_own {w : World} {rv : Value} {es : List El} (h : w.ownsRow 0 102 4 rv es.length (rowCells es)) : RowV w rv es := by
 rcases h.2 with ⟨rfl, h0⟩ | ⟨g, cap, cur, rfl, _, hg, _, _, _, htk⟩
 ·exact ⟨none, 0, by rw [h0], fun hne => absurd (List.length_eq_zero_iff.1 h0) hne⟩
 ·refine ⟨_, cap, rfl, fun _ => ⟨g, rfl, fun i e he => ?_⟩⟩
  have hil : i < es.length := (List.getElem?_eq_some_iff.1 he).1
  have key : ∀ j, j < 4 → w.cell? ⟨g, i * 4 + j, none⟩ = e.cells[j]? := fun j hj => by
   rw [Lib.cell_of_heap hg, ← rowCells_at es i e he j hj, ← htk, List.getElem?_take, if_pos (by omega), Array.getElem?_toList]
  exact ⟨key 0 (by omega), key 1 (by omega), key 2 (by omega), key 3 (by omega)⟩
set_option maxHeartbeats 1000000 in
set_option maxRecDepth 100000 in
theorem rowInsert_ins (es : List El) (c p bc bp : Nat) (ch : Int) (b o : Nat) (T : TypeId) (rv : Value) (w : World) (cs : Array Value) (hb : w.heap[b]? = some (.cells cs T (0, 0))) (hT : T ≠ 102) (hrv : cs[o]? = some rv)
  (hown : w.ownsRow 0 102 4 rv es.length (rowCells es)) (hn : es.length ≤ 4294967295)
  (h1 : ¬ 0 ≤ findFrom c p es 0) (h2 : placeOk bc bp es = true) (kk : Nat) (hkk : Hid (behindGreater c p (es.drop (placeOf bc bp es).toNat) (placeOf bc bp es).toNat = kk)) :
  Calls Tryz.prog 77 #[.pointer (some ⟨b, o, none⟩), .agg #[.int .u32 c, .int .u8 p], .agg #[.int .u32 bc, .int .u8 bp], .int .i32 ch] w fun e' w' =>
   e' = .returned (.tuple #[]) ∧ ∃ rv', w'.ownsRow 0 102 4 rv' (es.length + 1) (rowCells (es.take kk ++ ⟨c, p, ch, false⟩ :: es.drop kk)) ∧ w'.heap[b]? = some (.cells (cs.setIfInBounds o rv') T (0, 0)) ∧
    Kept (fun k => k = b ∨ rv.ownBlock = some k) w w' ∧ (∀ k, rv'.ownBlock = some k → rv.ownBlock = some k ∨ w.heap.size ≤ k) := by
 have hpl0 : Hid (placeOf bc bp es = ((placeOf bc bp es).toNat : Int)) := by
  show placeOf bc bp es = ((placeOf bc bp es).toNat : Int)
  unfold placeOk at h2; unfold placeOf
  split at h2
  ·rename_i h; rw [if_pos h]; rfl
  ·rename_i h; rw [if_neg h]; simp at h2; omega
 have hple : (placeOf bc bp es).toNat ≤ es.length := by
  have h3 := findFrom_hi bc bp es
  have h4 := findFrom_lo bc bp es 0
  have h5 : es.length = 0 → findFrom bc bp es 0 = -1 := fun h => by rw [List.length_eq_zero_iff.1 h]; rfl
  unfold placeOf
  split <;> omega
 have h0 : w.cell? ⟨b, o, none⟩ = some rv := by rw [Lib.cell_of_heap hb, hrv]
 have hbw := lt_of_heap hb
 have hv := rowV_of_own hown
 go_enter Tryz.func77, Tryz.ntmps77
 go_wp2_with fail
 refine (placeBehind_any bc bp es b o rv _ ?_ (hv.kept (((Kept.refl (fun _ => False) w).alloc _).alloc _) (fun _ _ h => h)) (by omega)).mono ?_
 ·exact (((Kept.refl (fun _ => False) w).alloc _).alloc _).cell' h0 (fun h => h)
 rintro e1 w1 ⟨rfl, hk1⟩
 have hp0 : Hid (w1.heap[w.heap.size]? = some (.cells #[.int .u32 c, .int .u8 p] 100 (0, 0))) := by
  refine hk1.heap (S := fun _ => False) ?_ (fun h => h)
  rw [Below.heap_alloc _ _ _ (by simp)]; exact heap_alloc_new w _
 have hkw1 : Kept (fun _ => False) w w1 := (((Kept.refl (fun _ => False) w).alloc _).alloc _).trans' hk1
 have d0 : w1.cell? ⟨w.heap.size, 0, none⟩ = some (.int .u32 c) := by rw [Lib.cell_of_heap hp0.out]; rfl
 have d1 : w1.cell? ⟨w.heap.size, 1, none⟩ = some (.int .u8 p) := by rw [Lib.cell_of_heap hp0.out]; rfl
 go_wp2_with fail
 refine (find_any c p es b o rv _ (hkw1.cell' h0 (fun h => h)) (hv.kept hkw1 (fun _ _ h => h)) (by omega)).mono ?_
 rintro e2 w2 ⟨rfl, hk2⟩
 have hkw2 := hkw1.trans' hk2
 have hf : decide (0 ≤ findFrom c p es 0) = false := by rw [decide_eq_false_iff_not]; omega
 obtain ⟨k0, hk0⟩ : ∃ k0, (placeOf bc bp es).toNat = k0 := ⟨_, rfl⟩
 have hp2 : Hid (w2.heap[w.heap.size]? = some (.cells #[.int .u32 c, .int .u8 p] 100 (0, 0))) := hk2.heap (S := fun _ => False) hp0.out (fun h => h)
 rw [hpl0.out, hk0]
 rw [hk0] at hple hkk
 clear d0 d1 hpl0 hk0 hk1 hk2 hp0 hkw1 h1
 go_wp2
 go_loopw [8] (fun i wr => ∃ k : Nat, k ≤ es.length ∧ i = .int .i64 k ∧ Hid (behindGreater c p (es.drop k0) k0 = behindGreater c p (es.drop k) k) ∧ Hid (wr.heap[w.heap.size]? = some (.cells #[.int .u32 c, .int .u8 p] 100 (0, 0))) ∧ Kept (fun _ => False) w wr) (fun i _ => es.length - (intOf i).toNat)
 case atStart => exact ⟨k0, hple, rfl, rfl, hp2, hkw2⟩
 case round =>
  obtain ⟨k, hk, rfl, hbg, hnb, hkp⟩ := hrel
  have r0 := hkp.cell' h0 (fun h => h)
  go_wp2_with fail
  go_cut [47] (fun v wc => v = .bool (contAt c p es k) ∧ Kept (fun _ => False) wr wc)
  case first =>
   obtain ⟨a, cp, hrv2, he⟩ := hv
   subst hrv2
   by_cases hlt : k < es.length
   ·obtain ⟨e, hek⟩ : ∃ e, es[k]? = some e := ⟨_, List.getElem?_eq_getElem hlt⟩
    obtain ⟨g, rfl, heg⟩ := he (by intro h; rw [h] at hlt; simp at hlt)
    obtain ⟨c0, c1, c2, c3⟩ := (heg.kept hkp (fun h => h)) k e hek
    have d0 : wr.cell? ⟨w.heap.size, 0, none⟩ = some (.int .u32 c) := by rw [Lib.cell_of_heap hnb.out]; rfl
    have d1 : wr.cell? ⟨w.heap.size, 1, none⟩ = some (.int .u8 p) := by rw [Lib.cell_of_heap hnb.out]; rfl
    have hct : Hid (contAt c p es k = greaterB e.clock e.peer c p) := by unfold contAt; rw [hek]; exact rfl
    have hlt2 : (k : Int) < (es.length : Int) := by omega
    clear hek he heg hkw2 hown hb hrv
    go_region_with (go_at_call 98; refine (greater_any _ _ _ _ _).mono ?_; rintro e3 w3 ⟨rfl, hk3⟩)
    all_goals (go_wp2_with fail; go_meet; exact ⟨by rw [hct.out], (Kept.refl _ _).drew.trans' hk3⟩)
   ·have hct : Hid (contAt c p es k = false) := by unfold contAt; rw [List.getElem?_eq_none (by omega)]; exact rfl
    have hge : decide ((k : Int) < (es.length : Int)) = false := by rw [decide_eq_false_iff_not]; omega
    clear he hkw2 hown hb hrv
    go_quiet (fail)
    go_wp2_with fail
    go_meet
    exact ⟨by rw [hct.out], (Kept.refl _ _).drewN _⟩
  case rest =>
   obtain ⟨rfl, hkc⟩ := hcut
   cases hct : contAt c p es k
   ·have hkf : Hid (kk = k) := by
     have := hkk.out.symm.trans (hbg.out.trans (behindGreater_cont c p es k)); rw [hct] at this; exact this
    have hkw : Kept (fun _ => False) w wc := hkp.trans' hkc
    have hnc := hkc.heap (S := fun _ => False) hnb.out (fun h => h)
    have d0 : wc.cell? ⟨w.heap.size, 0, none⟩ = some (.int .u32 c) := by rw [Lib.cell_of_heap hnc]; rfl
    have d1 : wc.cell? ⟨w.heap.size, 1, none⟩ = some (.int .u8 p) := by rw [Lib.cell_of_heap hnc]; rfl
    have dz : w.heap.size < wc.heap.size := lt_of_heap hnc
    have r1 : wc.cell? ⟨b, o, none⟩ = some rv := hkw.cell' h0 (fun h => h)
    have hbc : b < wc.heap.size := Nat.lt_of_lt_of_le hbw hkw.size
    have hob : ∀ k, rv.ownBlock = some k → k < w.heap.size ∧ k ≠ b := fun k hk => by
     refine ⟨(hown.lt k hk).2, fun e => ?_⟩
     rcases hown.2 with ⟨rfl, _⟩ | ⟨g, cap, cur, rfl, _, hg, _⟩
     ·simp [Value.ownBlock] at hk
     ·simp [Value.ownBlock] at hk; rw [hk, e, hb] at hg; simp at hg; exact hT hg.2
    have hcall : Calls Tryz.prog 99 #[rv, .int .i64 k, .slice (some ⟨wc.heap.size, 0, none⟩) 1 1] (wc.alloc (.cells #[.int .u32 c, .int .u8 p, .int .i32 ch, .bool false] 102)).drew fun e' w4 =>
      ∃ g cap, e' = .returned (.slice (some ⟨g, 0, none⟩) (es.length + 1) cap) ∧ Hid (w4.ownsRow 0 102 4 (.slice (some ⟨g, 0, none⟩) (es.length + 1) cap) (es.length + 1) (rowCells (es.take k ++ ⟨c, p, ch, false⟩ :: es.drop k)) ∧ Kept (fun k => rv.ownBlock = some k) w w4 ∧ (rv.ownBlock = some g ∨ w.heap.size ≤ g)) ∧ w4.cell? ⟨b, o, none⟩ = some rv ∧ w4.frozen? ⟨b, o, none⟩ = false ∧ b < w4.heap.size := by
     have hk0 : Kept (fun _ => False) w (wc.alloc (.cells #[.int .u32 c, .int .u8 p, .int .i32 ch, .bool false] 102)).drew := (hkw.alloc _).drew
     refine (slInsert_any es ⟨c, p, ch, false⟩ k rv wc.heap.size 1 _ hk (by omega) (ownsRow_kept hown hk0 (fun _ _ h => h)) (heap_alloc_new wc _) (fun e => by have := (hob _ e).1; omega)).mono ?_
     rintro e' w4 ⟨g, cap, rfl, x1, x2, x3⟩
     have hk4 : Kept (fun k => rv.ownBlock = some k) w w4 := (hk0.mono (fun _ _ h => h.elim)).trans x2 (fun _ _ h => h)
     refine ⟨g, cap, rfl, ⟨x1, hk4, ?_⟩, hk4.cell' h0 (fun h => (hob b h).2 rfl), ?_, Nat.lt_of_lt_of_le hbw hk4.size⟩
     ·rcases x3 with h | h
      ·exact Or.inl h
      ·exact Or.inr (Nat.le_trans hk0.size h)
     ·rw [hk4.frozen (p := ⟨b, o, none⟩) hbw (fun h => (hob b h).2 rfl)]; exact Lib.frozen_of_heap hb o
    have HP : Hid (Kept (fun _ => False) w wc ∧ ∀ k, rv.ownBlock = some k → k < w.heap.size ∧ k ≠ b) := ⟨hkw, hob⟩
    clear hob hkw hnc hct hkp hkc hkw2 hf hown hv
    go_wp2_with fail
    go_region_with (go_at_call 99; refine hcall.mono ?_; rintro e4 w4 ⟨g4, cap4, rfl, X4, c4, f4, z4⟩)
    all_goals
     go_end0
     obtain ⟨x1, x2, x3⟩ := X4.out
     refine ⟨rfl, .slice (some ⟨g4, 0, none⟩) (es.length + 1) cap4, ?_, ?_, ?_, ?_⟩
     ·rw [hkf.out]
      exact ownsRow_kept x1 ((Kept.refl (fun k => k = b) w4).setCell (p := ⟨b, o, none⟩) (fun _ => rfl) _) (fun j hj hjb => by
       simp [Value.ownBlock] at hj
       rcases x3 with h | h
       ·exact (HP.out.2 g4 h).2 (by omega)
       ·omega)
     ·exact heap_set_same (x2.heap hb (fun h => (HP.out.2 b h).2 rfl)) o _
     ·exact Kept.setCell (S := fun k => k = b ∨ rv.ownBlock = some k) (x2.mono (fun k _ h => Or.inr h)) (p := ⟨b, o, none⟩) (fun _ => Or.inl rfl) _
     ·intro j hj; simp [Value.ownBlock] at hj; subst hj; exact x3
   ·have hlt := contAt_lt c p es k hct
    have hbg2 : Hid (behindGreater c p (es.drop k0) k0 = behindGreater c p (es.drop (k + 1)) (k + 1)) := by
     have := hbg.out.trans (behindGreater_cont c p es k); rw [hct] at this; exact this
    clear hct
    go_wp2
    go_roundw
    case rel => exact ⟨k + 1, by omega, by go_num, hbg2, hkc.heap (S := fun _ => False) hnb.out (fun h => h), hkp.trans' hkc⟩
    case measure => simp [intOf]; omega
end Go.Proofs.YtgfafbanahiigaaGreat
