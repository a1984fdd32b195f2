import Derived.Laws.Cover4
import Derived.Test.YtgfafbanahiigaaGreatV15
set_option linter.unusedVariables false
set_option linter.unusedSimpArgs false
namespace Go.Proofs.YtgfafbanahiigaaGreat
open Go.RowKit Go.Chorus
theorem new_pm (peer peers : Nat) (w : World) (h1 : 1 ≤ peers) (h2 : peers ≤ 8) (h4 : peer < peers) :
  Calls Tryz.prog 9 #[.int .i64 peer, .int .i64 peers] w fun e' w' => ∃ bp F, e' = .returned (.tuple #[.pointer (some ⟨bp, 0, none⟩), .int .i64 0]) ∧
   PM w' bp ⟨peer, 0, List.replicate peers 0, [], [], List.replicate peers []⟩ F ∧ (∀ k, F k → w.heap.size ≤ k) ∧ Kept (fun _ => False) w w' := by
 refine (new_any peer peers w h1 h2 h4).mono ?_
 rintro e' w' ⟨bp, bk, rfl, hP, hb1, hb2, hb3, hk⟩
 refine ⟨bp, Own bp bk (.slice none 0 0) (.slice none 0 0) [], rfl, ⟨bk, _, _, [], hP, ⟨World.ownsRow_nil _ _ _ _, fun m hm => by cases hm⟩, rfl, rfl⟩, ?_, hk⟩
 rintro k ((rfl | h | h) | h | ⟨m, hm, _⟩ | h)
 ·exact hb1
 ·exact hb2 k h
 ·simp [Value.ownBlock] at h
 ·simp [Value.ownBlock] at h
 ·cases hm
 ·exact absurd h (hb3 k)
def roomP (s : Pr) : Int := if 400 ≤ s.k s.me then 5 else if (4294967295 : Int) ≤ (s.clock : Int) then 4 else 0
set_option maxHeartbeats 2000000 in
set_option maxRecDepth 100000 in
theorem perform_full (s : Pr) (N : Nat) (bp : Nat) (F : Nat → Prop) (kd tc tp ch : Int) (w : World) (h : PM w bp s F) (hf : Fit N s) (hr : roomP s ≠ 0) :
  Calls Tryz.prog 45 #[.pointer (some ⟨bp, 0, none⟩), .agg #[.int .u8 kd, .int .u8 0, .int .u32 0, .int .u32 0, .slice none 0 0, .int .u32 tc, .int .u8 tp, .int .i32 ch]] w fun e' w' =>
   e' = .returned (.tuple #[.string ⟨#[]⟩, .int .i64 (roomP s)]) ∧ Kept (fun _ => False) w w' := by
 obtain ⟨bk, rv, hv, ms, P, H, ho, rfl⟩ := h
 obtain ⟨c0, c1, c2, c3, c4⟩ := P.cells
 have hbw := lt_of_heap P.block
 have hkl : s.known.length ≤ 8 := by rw [hf.len]; exact hf.n8
 have hpl : s.me < s.known.length := by rw [hf.len]; exact hf.me
 obtain ⟨x, hxe⟩ : ∃ x, s.k s.me = x := ⟨_, rfl⟩
 have hx : s.known[s.me]? = some x := by rw [← hxe]; unfold Pr.k; rw [List.getD_eq_getElem?_getD, List.getElem?_eq_getElem hpl]; rfl
 have hxf := hf.k s.me
 have hct := fun W' (hW' : Kept (fun _ => False) w W') => hCount_log bp 2 s.known.length s.me x bk s.known W' (hW'.cell' c2 (fun h => h)) (P.log.quiet hW') hx (by omega)
 have hpl2 : (s.me : Int) < (s.known.length : Int) := by omega
 have e : Hid (roomP s = if 400 ≤ x then 5 else if (4294967295 : Int) ≤ (s.clock : Int) then 4 else 0) := by show _ = _; unfold roomP; rw [hxe]
 rw [e.out] at hr
 obtain ⟨C, hC⟩ : ∃ C : Int, (s.clock : Int) = C := ⟨_, rfl⟩
 have hcf := hf.clock
 have hC2 : C ≤ 4294967295 := by omega
 rw [hC] at e c1 hr
 rw [hxe] at hxf
 clear hx hxe ho hC hcf P H
 by_cases d1 : 400 ≤ x
 ·clear hr
  go_enter Tryz.func45, Tryz.ntmps45
  go_wp2_with fail
  go_quiet (refine Calls.quiet_of_same (hct _ (((Kept.refl _ _).alloc _).drewN _)))
  go_wp2_with fail
  go_ret2
  exact ⟨by rw [e.out, if_pos d1]; rfl, ((Kept.refl _ _).alloc _).drewN _⟩
 ·have d2 : C = 4294967295 := by
   rw [if_neg d1] at hr
   by_cases h : (4294967295 : Int) ≤ C
   ·omega
   ·rw [if_neg h] at hr; exact absurd rfl hr
  subst d2
  clear hr
  go_enter Tryz.func45, Tryz.ntmps45
  go_wp2_with fail
  go_quiet (refine Calls.quiet_of_same (hct _ (((Kept.refl _ _).alloc _).drewN _)))
  go_wp2_with fail
  go_ret2
  exact ⟨by rw [e.out, if_neg d1, if_pos (by decide)]; rfl, ((Kept.refl _ _).alloc _).drewN _⟩
set_option maxHeartbeats 1000000 in
theorem insert_room (s : Pr) (N : Nat) (bp : Nat) (F : Nat → Prop) (w : World) (h : PM w bp s F) (hf : Fit N s) (hn : s.row.length ≤ 4294967296) (at_ ch : Int) (hat2 : at_ ≤ 9223372036854775807) (tc tp : Nat) (hb : behindOf s.row at_ = some (tc, tp)) (hvr : Lib.validRune ch = true) (hr : roomP s ≠ 0) :
  Calls Tryz.prog 30 #[.pointer (some ⟨bp, 0, none⟩), .int .i64 at_, .int .i32 ch] w fun e' w' =>
   e' = .returned (.tuple #[.string ⟨#[]⟩, .int .i64 (roomP s)]) ∧ Kept (fun _ => False) w w' := by
 have h0 := h
 obtain ⟨bk, rv, hv, ms, P, H, ho, rfl⟩ := h
 obtain ⟨c0, c1, c2, c3, c4⟩ := P.cells
 have HB : Hid (behindOf s.row at_ = some (tc, tp)) := hb
 have HV : Hid (Lib.validRune ch = true) := hvr
 clear hb hvr
 obtain ⟨R, hR⟩ : ∃ R, roomP s = R := ⟨_, rfl⟩
 have hpf := fun W (hW : Kept (fun _ => False) w W) => perform_full s N bp (Own bp bk rv hv ms) 1 tc tp ch W (h0.quiet hW) hf hr
 rw [hR] at hpf ⊢
 clear hR hr
 go_enter Tryz.func30, Tryz.ntmps30
 go_wp2_with fail
 refine (nameBehind_any bp at_ s.row rv w c3 (rowV_of_own P.row) hn hat2).mono ?_
 rintro e2 w2 ⟨rfl, hk2⟩
 rw [HB.out, show behindRet (some (tc, tp)) = .tuple #[.agg #[.int .u32 tc, .int .u8 tp], .bool true] from rfl]
 go_wp2_with fail
 refine (Tryz.utf8_ValidRune ch _).mono ?_
 rintro e3 w3 ⟨rfl, rfl⟩
 rw [HV.out]
 have hk3 : Kept (fun _ => False) w (w2.alloc (.cells #[.int .u32 tc, .int .u8 tp] 100)) := hk2.alloc _
 have hpf' := hpf _ hk3
 clear hpf
 go_wp2_with fail
 refine hpf'.mono ?_
 rintro e4 w4 ⟨rfl, hT⟩
 clear hpf'
 go_wp2
 go_ret2
 exact ⟨rfl, hk3.trans' hT⟩
set_option maxHeartbeats 1000000 in
theorem delete_room (s : Pr) (N : Nat) (bp : Nat) (F : Nat → Prop) (w : World) (h : PM w bp s F) (hf : Fit N s) (hn : s.row.length ≤ 4294967296) (at_ : Int) (e : El) (hb : liveAt s.row at_ = some e) (hr : roomP s ≠ 0) :
  Calls Tryz.prog 32 #[.pointer (some ⟨bp, 0, none⟩), .int .i64 at_] w fun e' w' =>
   e' = .returned (.tuple #[.string ⟨#[]⟩, .int .i64 (roomP s)]) ∧ Kept (fun _ => False) w w' := by
 have h0 := h
 obtain ⟨bk, rv, hv, ms, P, H, ho, rfl⟩ := h
 obtain ⟨c0, c1, c2, c3, c4⟩ := P.cells
 have HB : Hid (liveAt s.row at_ = some e) := hb
 clear hb
 obtain ⟨R, hR⟩ : ∃ R, roomP s = R := ⟨_, rfl⟩
 have hpf := fun W (hW : Kept (fun _ => False) w W) => perform_full s N bp (Own bp bk rv hv ms) 2 e.clock e.peer 0 W (h0.quiet hW) hf hr
 rw [hR] at hpf ⊢
 clear hR hr
 go_enter Tryz.func32, Tryz.ntmps32
 go_wp2_with fail
 refine (nameAt_any at_ s.row bp 3 rv w c3 (rowV_of_own P.row) hn).mono ?_
 rintro e2 w2 ⟨rfl, hk2⟩
 rw [HB.out, show nameRet (some e) = .tuple #[.agg #[.int .u32 e.clock, .int .u8 e.peer], .bool true] from rfl]
 have hk3 : Kept (fun _ => False) w (w2.alloc (.cells #[.int .u32 e.clock, .int .u8 e.peer] 100)) := hk2.alloc _
 have hpf' := hpf _ hk3
 clear hpf
 go_wp2_with fail
 refine hpf'.mono ?_
 rintro e4 w4 ⟨rfl, hT⟩
 clear hpf'
 go_wp2
 go_ret2
 exact ⟨rfl, hk3.trans' hT⟩
end Go.Proofs.YtgfafbanahiigaaGreat
