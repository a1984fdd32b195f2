import Derived.Test.YtgfafbanahiigaaGreatV14
import Derived.LaidEqlPtr
set_option linter.unusedVariables false
set_option linter.unusedSimpArgs false
namespace Go.Proofs.YtgfafbanahiigaaGreat
open Go.RowKit Go.Chorus
set_option maxHeartbeats 1000000 in
theorem nameBehind_zero (bp : Nat) (at_ : Int) (w : World) (hat : at_ ≤ 0) :
  Calls Tryz.prog 43 #[.pointer (some ⟨bp, 0, none⟩), .int .i64 at_] w fun e' w' =>
   e' = .returned (.tuple #[.agg #[.int .u32 0, .int .u8 0], .bool (at_ == 0)]) ∧ Kept (fun _ => False) w w' := by
 go_enter Tryz.func43, Tryz.ntmps43
 go_wp2
 refine bodyPost_ret (v := .tuple #[.agg #[.int .u32 0, .int .u8 0], .bool (at_ == 0)]) (by simp [results, Tryz.results43, go_sem]) rfl ⟨rfl, ?_⟩
 exact (Kept.refl _ w).alloc _
set_option maxHeartbeats 1000000 in
theorem nameBehind_pos (bp : Nat) (at_ : Int) (es : List El) (rv : Value) (w : World) (h0 : w.cell? ⟨bp, 3, none⟩ = some rv) (hv : RowV w rv es) (hn : es.length ≤ 4294967296) (hat : 0 < at_) (hat2 : at_ ≤ 9223372036854775807) :
  Calls Tryz.prog 43 #[.pointer (some ⟨bp, 0, none⟩), .int .i64 at_] w fun e' w' =>
   e' = .returned (nameRet (liveAt es (at_ - 1))) ∧ Kept (fun _ => False) w w' := by
 have hbw := World.block_lt_of_cell? w _ h0
 go_enter Tryz.func43, Tryz.ntmps43
 go_wp2_with fail
 refine (nameAt_any _ es bp 3 rv _ (((Kept.refl (fun _ => False) w).alloc _).cell' h0 (fun h => h)) (hv.kept ((Kept.refl (fun _ => False) w).alloc _) (fun _ _ h => h)) hn).mono ?_
 rintro e2 w2 ⟨rfl, hk2⟩
 have hb2 : w2.heap[w.heap.size]? = some (.cells #[.int .u32 0, .int .u8 0] 100 (0, 0)) := hk2.heap (heap_alloc_new w _) (fun h => h)
 have d0 : w2.cell? ⟨w.heap.size, 0, none⟩ = some (.int .u32 0) := by rw [Lib.cell_of_heap hb2]; rfl
 have d1 : w2.cell? ⟨w.heap.size, 1, none⟩ = some (.int .u8 0) := by rw [Lib.cell_of_heap hb2]; rfl
 have fz : ∀ j, w2.frozen? ⟨w.heap.size, j, none⟩ = false := Lib.frozen_of_heap hb2
 have hkw : Kept (fun _ => False) w w2 := ((Kept.refl _ w).alloc _).trans' hk2
 clear hb2 hk2
 cases hl : liveAt es (at_ - 1) with
 | none =>
  rw [show nameRet (none : Option El) = .tuple #[.agg #[.int .u32 0, .int .u8 0], .bool false] from rfl]
  have HL : Hid (liveAt es (at_ - 1) = none) := hl
  clear hl
  go_wp2
  refine bodyPost_ret (v := .tuple #[.agg #[.int .u32 0, .int .u8 0], .bool false]) (by simp [results, Tryz.results43, go_sem, d0, d1]) rfl ⟨by rw [HL.out]; rfl, ?_⟩
  exact (hkw.setCell (fun h => absurd h (Nat.lt_irrefl _)) _).setCell (fun h => absurd h (Nat.lt_irrefl _)) _
 | some e =>
  rw [show nameRet (some e) = .tuple #[.agg #[.int .u32 e.clock, .int .u8 e.peer], .bool true] from rfl]
  have HL : Hid (liveAt es (at_ - 1) = some e) := hl
  clear hl
  go_wp2
  refine bodyPost_ret (v := .tuple #[.agg #[.int .u32 e.clock, .int .u8 e.peer], .bool true]) (by simp [results, Tryz.results43, go_sem, d0, d1]) rfl ⟨by rw [HL.out]; rfl, ?_⟩
  exact (hkw.setCell (fun h => absurd h (Nat.lt_irrefl _)) _).setCell (fun h => absurd h (Nat.lt_irrefl _)) _
def behindOf (es : List El) (at_ : Int) : Option (Nat × Nat) := if at_ = 0 then some (0, 0) else if at_ < 0 then none else (liveAt es (at_ - 1)).map fun e => (e.clock, e.peer)
def behindRet : Option (Nat × Nat) → Value
 | some t => .tuple #[.agg #[.int .u32 t.1, .int .u8 t.2], .bool true]
 | none => .tuple #[.agg #[.int .u32 0, .int .u8 0], .bool false]
theorem nameBehind_any (bp : Nat) (at_ : Int) (es : List El) (rv : Value) (w : World) (h0 : w.cell? ⟨bp, 3, none⟩ = some rv) (hv : RowV w rv es) (hn : es.length ≤ 4294967296) (hat2 : at_ ≤ 9223372036854775807) :
  Calls Tryz.prog 43 #[.pointer (some ⟨bp, 0, none⟩), .int .i64 at_] w fun e' w' =>
   e' = .returned (behindRet (behindOf es at_)) ∧ Kept (fun _ => False) w w' := by
 by_cases h1 : 0 < at_
 ·refine (nameBehind_pos bp at_ es rv w h0 hv hn h1 hat2).mono ?_
  rintro e' w' ⟨rfl, hk⟩
  refine ⟨?_, hk⟩
  unfold behindOf
  rw [if_neg (by omega), if_neg (by omega)]
  cases liveAt es (at_ - 1) <;> rfl
 ·refine (nameBehind_zero bp at_ w (by omega)).mono ?_
  rintro e' w' ⟨rfl, hk⟩
  refine ⟨?_, hk⟩
  unfold behindOf
  by_cases h2 : at_ = 0
  ·subst h2; rfl
  ·rw [if_neg h2, if_pos (by omega)]
   have : (at_ == 0) = false := by simpa using h2
   rw [this]; rfl
set_option maxHeartbeats 1000000 in
theorem text_pm (s : Pr) (bp : Nat) (F : Nat → Prop) (w : World) (h : PM w bp s F) (hn : s.row.length ≤ 4294967296) (hfit : ∀ e ∈ s.row, e.Fits) :
  Calls Tryz.prog 13 #[.pointer (some ⟨bp, 0, none⟩)] w fun e' w' =>
   e' = .returned (.string ⟨(textBytes s.row).toArray⟩) ∧ Kept (fun _ => False) w w' := by
 obtain ⟨bk, rv, hv, ms, P, H, ho, rfl⟩ := h
 obtain ⟨c0, c1, c2, c3, c4⟩ := P.cells
 go_enter Tryz.func13, Tryz.ntmps13
 go_wp2_with fail
 refine (rowText_any s.row bp 3 rv w c3 (rowV_of_own P.row) hn hfit).mono ?_
 rintro e2 w2 ⟨rfl, hk2⟩
 go_wp2
 go_ret
 exact ⟨rfl, hk2⟩
theorem known_pm (s : Pr) (N : Nat) (bp : Nat) (F : Nat → Prop) (w : World) (h : PM w bp s F) (hf : Fit N s) :
  Calls Tryz.prog 15 #[.pointer (some ⟨bp, 0, none⟩)] w fun e' w' => e' = .returned (.slice (some ⟨w.heap.size, 0, none⟩) s.known.length s.known.length) ∧
   w'.heap[w.heap.size]? = some (.cells (i64s s.known) 3 (0, 0)) ∧ Kept (fun _ => False) w w' := by
 obtain ⟨bk, rv, hv, ms, P, H, ho, rfl⟩ := h
 exact known_any s bp bk rv hv w P (by rw [hf.len]; exact hf.n8) hf.known
set_option maxHeartbeats 1000000 in
theorem insert_place (s : Pr) (bp : Nat) (F : Nat → Prop) (w : World) (h : PM w bp s F) (hn : s.row.length ≤ 4294967296) (at_ ch : Int) (hat2 : at_ ≤ 9223372036854775807) (hb : behindOf s.row at_ = none) :
  Calls Tryz.prog 30 #[.pointer (some ⟨bp, 0, none⟩), .int .i64 at_, .int .i32 ch] w fun e' w' =>
   e' = .returned (.tuple #[.string ⟨#[]⟩, .int .i64 2]) ∧ Kept (fun _ => False) w w' := by
 obtain ⟨bk, rv, hv, ms, P, H, ho, rfl⟩ := h
 obtain ⟨c0, c1, c2, c3, c4⟩ := P.cells
 have HB : Hid (behindOf s.row at_ = none) := hb
 clear hb
 go_enter Tryz.func30, Tryz.ntmps30
 go_wp2_with fail
 refine (nameBehind_any bp at_ s.row rv w c3 (rowV_of_own P.row) hn hat2).mono ?_
 rintro e2 w2 ⟨rfl, hk2⟩
 rw [HB.out, show behindRet none = .tuple #[.agg #[.int .u32 0, .int .u8 0], .bool false] from rfl]
 go_wp2
 go_ret2
 exact ⟨rfl, hk2.alloc _⟩
set_option maxHeartbeats 1000000 in
theorem insert_rune (s : Pr) (bp : Nat) (F : Nat → Prop) (w : World) (h : PM w bp s F) (hn : s.row.length ≤ 4294967296) (at_ ch : Int) (hat2 : at_ ≤ 9223372036854775807) (tc tp : Nat) (hb : behindOf s.row at_ = some (tc, tp)) (hvr : Lib.validRune ch = false) :
  Calls Tryz.prog 30 #[.pointer (some ⟨bp, 0, none⟩), .int .i64 at_, .int .i32 ch] w fun e' w' =>
   e' = .returned (.tuple #[.string ⟨#[]⟩, .int .i64 3]) ∧ Kept (fun _ => False) w w' := by
 obtain ⟨bk, rv, hv, ms, P, H, ho, rfl⟩ := h
 obtain ⟨c0, c1, c2, c3, c4⟩ := P.cells
 have HB : Hid (behindOf s.row at_ = some (tc, tp)) := hb
 have HV : Hid (Lib.validRune ch = false) := hvr
 clear hb hvr
 go_enter Tryz.func30, Tryz.ntmps30
 go_wp2_with fail
 refine (nameBehind_any bp at_ s.row rv w c3 (rowV_of_own P.row) hn hat2).mono ?_
 rintro e2 w2 ⟨rfl, hk2⟩
 rw [HB.out, show behindRet (some (tc, tp)) = .tuple #[.agg #[.int .u32 tc, .int .u8 tp], .bool true] from rfl]
 go_wp2_with fail
 refine (Tryz.utf8_ValidRune ch _).mono ?_
 rintro e3 w3 ⟨rfl, rfl⟩
 rw [HV.out]
 go_wp2
 go_ret2
 exact ⟨rfl, hk2.alloc _⟩
set_option maxHeartbeats 1000000 in
theorem insert_ok (s : Pr) (N : Nat) (bp : Nat) (F : Nat → Prop) (w : World) (h : PM w bp s F) (hf : Fit N s) (hn : psize s < 4294967295) (at_ : Int) (ch : Nat) (hat2 : at_ ≤ 9223372036854775807) (tc tp : Nat) (hb : behindOf s.row at_ = some (tc, tp)) (hvr : Lib.validRune ch = true)
  (hx2 : s.k s.me < 400) (hcl : s.clock < 4294967295) (hRO : RightOp N (s.makes true (tc, tp) ch)) :
  Calls Tryz.prog 30 #[.pointer (some ⟨bp, 0, none⟩), .int .i64 at_, .int .i32 ch] w fun e' w' =>
   e' = .returned (.tuple #[.string ⟨(s.makes true (tc, tp) ch).packet.toArray⟩, .int .i64 0]) ∧ Turn bp F w w' (s.deliverF (s.makes true (tc, tp) ch)).1 := by
 have h0 := h
 obtain ⟨bk, rv, hv, ms, P, H, ho, rfl⟩ := h
 obtain ⟨c0, c1, c2, c3, c4⟩ := P.cells
 have HB : Hid (behindOf s.row at_ = some (tc, tp)) := hb
 have HV : Hid (Lib.validRune ch = true) := hvr
 clear hb hvr
 go_enter Tryz.func30, Tryz.ntmps30
 go_wp2_with fail
 refine (nameBehind_any bp at_ s.row rv w c3 (rowV_of_own P.row) (by unfold psize at hn; omega) hat2).mono ?_
 rintro e2 w2 ⟨rfl, hk2⟩
 rw [HB.out, show behindRet (some (tc, tp)) = .tuple #[.agg #[.int .u32 tc, .int .u8 tp], .bool true] from rfl]
 go_wp2_with fail
 refine (Tryz.utf8_ValidRune ch _).mono ?_
 rintro e3 w3 ⟨rfl, rfl⟩
 rw [HV.out]
 have hk3 : Kept (fun _ => False) w (w2.alloc (.cells #[.int .u32 tc, .int .u8 tp] 100)) := hk2.alloc _
 have hpf := perform_any s N bp (Own bp bk rv hv ms) true 1 rfl tc tp ch _ (h0.quiet hk3) hf hn hx2 hcl hRO
 go_wp2_with fail
 refine hpf.mono ?_
 rintro e4 w4 ⟨rfl, hT⟩
 have HT : Hid (Turn bp (Own bp bk rv hv ms) w w4 (s.deliverF (s.makes true (tc, tp) ch)).1) := by
  refine Turn.trans (F' := Own bp bk rv hv ms) (hk3.mono (fun _ _ h => h.elim)) (fun _ h => Or.inl h) hT
 clear hT hpf
 go_wp2
 go_ret2
 exact ⟨rfl, HT.out⟩
set_option maxHeartbeats 1000000 in
theorem delete_place (s : Pr) (bp : Nat) (F : Nat → Prop) (w : World) (h : PM w bp s F) (hn : s.row.length ≤ 4294967296) (at_ : Int) (hb : liveAt s.row at_ = none) :
  Calls Tryz.prog 32 #[.pointer (some ⟨bp, 0, none⟩), .int .i64 at_] w fun e' w' =>
   e' = .returned (.tuple #[.string ⟨#[]⟩, .int .i64 2]) ∧ Kept (fun _ => False) w w' := by
 obtain ⟨bk, rv, hv, ms, P, H, ho, rfl⟩ := h
 obtain ⟨c0, c1, c2, c3, c4⟩ := P.cells
 have HB : Hid (liveAt s.row at_ = none) := hb
 clear hb
 go_enter Tryz.func32, Tryz.ntmps32
 go_wp2_with fail
 refine (nameAt_any at_ s.row bp 3 rv w c3 (rowV_of_own P.row) hn).mono ?_
 rintro e2 w2 ⟨rfl, hk2⟩
 rw [HB.out, show nameRet none = .tuple #[.agg #[.int .u32 0, .int .u8 0], .bool false] from rfl]
 go_wp2
 go_ret2
 exact ⟨rfl, hk2.alloc _⟩
set_option maxHeartbeats 1000000 in
theorem delete_ok (s : Pr) (N : Nat) (bp : Nat) (F : Nat → Prop) (w : World) (h : PM w bp s F) (hf : Fit N s) (hn : psize s < 4294967295) (at_ : Int) (e : El) (hb : liveAt s.row at_ = some e)
  (hx2 : s.k s.me < 400) (hcl : s.clock < 4294967295) (hRO : RightOp N (s.makes false (e.clock, e.peer) 0)) :
  Calls Tryz.prog 32 #[.pointer (some ⟨bp, 0, none⟩), .int .i64 at_] w fun e' w' =>
   e' = .returned (.tuple #[.string ⟨(s.makes false (e.clock, e.peer) 0).packet.toArray⟩, .int .i64 0]) ∧ Turn bp F w w' (s.deliverF (s.makes false (e.clock, e.peer) 0)).1 := by
 have h0 := h
 obtain ⟨bk, rv, hv, ms, P, H, ho, rfl⟩ := h
 obtain ⟨c0, c1, c2, c3, c4⟩ := P.cells
 have HB : Hid (liveAt s.row at_ = some e) := hb
 clear hb
 go_enter Tryz.func32, Tryz.ntmps32
 go_wp2_with fail
 refine (nameAt_any at_ s.row bp 3 rv w c3 (rowV_of_own P.row) (by unfold psize at hn; omega)).mono ?_
 rintro e2 w2 ⟨rfl, hk2⟩
 rw [HB.out, show nameRet (some e) = .tuple #[.agg #[.int .u32 e.clock, .int .u8 e.peer], .bool true] from rfl]
 have hk3 : Kept (fun _ => False) w (w2.alloc (.cells #[.int .u32 e.clock, .int .u8 e.peer] 100)) := hk2.alloc _
 have hpf := perform_any s N bp (Own bp bk rv hv ms) false 2 rfl e.clock e.peer 0 _ (h0.quiet hk3) hf hn hx2 hcl hRO
 go_wp2_with fail
 refine hpf.mono ?_
 rintro e4 w4 ⟨rfl, hT⟩
 have HT : Hid (Turn bp (Own bp bk rv hv ms) w w4 (s.deliverF (s.makes false (e.clock, e.peer) 0)).1) := by
  refine Turn.trans (F' := Own bp bk rv hv ms) (hk3.mono (fun _ _ h => h.elim)) (fun _ h => Or.inl h) hT
 clear hT hpf
 go_wp2
 go_ret2
 exact ⟨rfl, HT.out⟩
end Go.Proofs.YtgfafbanahiigaaGreat
