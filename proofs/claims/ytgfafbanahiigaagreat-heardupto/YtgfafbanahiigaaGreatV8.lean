import Derived.Test.YtgfafbanahiigaaGreatHD
import Derived.Deep.QuietTactic
import Derived.BigQuiet
import Derived.Deep.RegionWith
import Derived.BigRegion
import Derived.Deep.DeepCutAuto
set_option linter.unusedVariables false
set_option linter.unusedSimpArgs false
namespace Go.Proofs.YtgfafbanahiigaaGreat
open Go.RowKit Go.Chorus
set_option maxHeartbeats 1000000 in
theorem opIndexFunc_any (p n : Nat) (ms : List MOp) (a : Option Addr) (cp b : Nat) (w : World) (he : ms ≠ [] → ∃ g, a = some ⟨g, 0, none⟩ ∧ OpsAt w g ms) (hn : ms.length ≤ 4294967296)
  (h1 : w.cell? ⟨b, 1, none⟩ = some (.int .u8 p)) (h2 : w.cell? ⟨b, 2, none⟩ = some (.int .u32 n)) :
  Calls Tryz.prog 103 #[.slice a ms.length cp, .func (.func 90) #[] #[.pointer (some ⟨b, 0, none⟩)]] w fun e' w' =>
   e' = .returned (.int .i64 (heldFrom p n ms 0)) ∧ Kept (fun _ => False) w w' := by
 go_enter Tryz.func103, Tryz.ntmps103
 go_wp2
 go_loopw [8] (fun i wr => ∃ k : Nat, k ≤ ms.length ∧ i = .int .i64 k ∧ Hid (heldFrom p n ms 0 = heldFrom p n (ms.drop k) k) ∧ Kept (fun _ => False) w wr) (fun i _ => ms.length - (intOf i).toNat)
 case atStart => exact ⟨0, Nat.zero_le _, rfl, rfl, Kept.refl _ _⟩
 case round =>
  obtain ⟨k, hk, rfl, hf, hkp⟩ := hrel
  by_cases hlt : k < ms.length
  ·obtain ⟨m, hek⟩ : ∃ m, ms[k]? = some m := ⟨_, List.getElem?_eq_getElem hlt⟩
   obtain ⟨g, rfl, heg⟩ := he (by intro h; rw [h] at hlt; simp at hlt)
   obtain ⟨c0, c1, c2, c3, c4, c5, c6, c7⟩ := (heg.kept hkp (fun h => h)) k m hek
   have HF : Hid (ms[k]? = some m) := hek
   clear hek
   go_wp2_with fail
   refine (waitsClos_any p n m b wr (hkp.cell' h1 (fun h => h)) (hkp.cell' h2 (fun h => h))).mono ?_
   rintro e' w' ⟨rfl, hk2⟩
   by_cases hm : m.o.peer = p ∧ m.o.num = n
   ·have hd : decide (m.o.peer = p ∧ m.o.num = n) = true := by simpa using hm
    have hres : Hid (heldFrom p n ms 0 = k) := by
     have := hf.out; rw [heldFrom_drop p n ms k m HF.out, if_pos hm] at this; exact this
    rw [hd]
    clear hm hd
    go_wp2
    go_ret
    exact ⟨ret_int hres.out.symm, hkp.trans' hk2⟩
   ·have hd : decide (m.o.peer = p ∧ m.o.num = n) = false := by simpa using hm
    have hres : Hid (heldFrom p n ms 0 = heldFrom p n (ms.drop (k + 1)) (k + 1)) := by
     have := hf.out; rw [heldFrom_drop p n ms k m HF.out, if_neg hm] at this; exact this
    rw [hd]
    clear hm hd
    go_wp2
    go_roundw
    case rel => exact ⟨k + 1, by omega, by go_num, hres, hkp.trans' hk2⟩
    case measure => simp [intOf]; omega
  ·go_wp2
   go_ret
   have : k = ms.length := by omega
   subst this
   exact ⟨ret_int (by rw [hf.out]; simp [heldFrom]), hkp⟩
set_option maxHeartbeats 1000000 in
theorem containsFunc_any (p n : Nat) (ms : List MOp) (a : Option Addr) (cp b : Nat) (w : World) (he : ms ≠ [] → ∃ g, a = some ⟨g, 0, none⟩ ∧ OpsAt w g ms) (hn : ms.length ≤ 4294967296)
  (h1 : w.cell? ⟨b, 1, none⟩ = some (.int .u8 p)) (h2 : w.cell? ⟨b, 2, none⟩ = some (.int .u32 n)) :
  Calls Tryz.prog 89 #[.slice a ms.length cp, .func (.func 90) #[] #[.pointer (some ⟨b, 0, none⟩)]] w fun e' w' =>
   e' = .returned (.bool (decide (0 ≤ heldFrom p n ms 0))) ∧ Kept (fun _ => False) w w' := by
 go_enter Tryz.func89, Tryz.ntmps89
 go_wp2_with fail
 refine (opIndexFunc_any p n ms a cp b w he hn h1 h2).mono ?_
 rintro e' w' ⟨rfl, hk⟩
 obtain ⟨X, hX⟩ : ∃ X, heldFrom p n ms 0 = X := ⟨_, rfl⟩
 have HX : Hid (heldFrom p n ms 0 = X) := hX
 rw [hX]
 clear hX
 go_wp2
 go_ret
 exact ⟨ret_bool (by rw [HX.out]), hk⟩
set_option maxHeartbeats 1000000 in
theorem waitsAlready_any (bp : Nat) (hv : Value) (ms : List MOp) (kd p n c : Nat) (sv : Value) (tc tp : Nat) (ch : Int) (w : World) (h0 : w.cell? ⟨bp, 4, none⟩ = some hv) (hV : OpsV w hv ms) (hn : ms.length ≤ 4294967296) :
  Calls Tryz.prog 63 #[.pointer (some ⟨bp, 0, none⟩), .agg #[.int .u8 kd, .int .u8 p, .int .u32 n, .int .u32 c, sv, .int .u32 tc, .int .u8 tp, .int .i32 ch]] w fun e' w' =>
   e' = .returned (.bool (decide (0 ≤ heldFrom p n ms 0))) ∧ Kept (fun _ => False) w w' := by
 have hb : bp < w.heap.size := World.block_lt_of_cell? w _ h0
 obtain ⟨a, cp, rfl, he⟩ := hV
 go_enter Tryz.func63, Tryz.ntmps63
 go_wp2_with fail
 refine (containsFunc_any p n ms a cp w.heap.size _ ?_ hn ?_ ?_).mono ?_
 ·intro hne
  obtain ⟨g, rfl, heg⟩ := he hne
  exact ⟨g, rfl, heg.kept ((Kept.refl (fun _ => False) w).alloc _) (fun h => h)⟩
 ·simp
 ·simp
 rintro e' w' ⟨rfl, hk2⟩
 go_wp2
 go_ret
 exact ⟨rfl, ((Kept.refl _ w).alloc _).trans' hk2⟩
def placeM (p : Nat) (ms : List MOp) (k : Nat) : Nat := placeW p (ms.map MOp.o) k
theorem placeM_cont (p : Nat) (ms : List MOp) (k : Nat) (m : MOp) (h : ms[k]? = some m) : placeM p (ms.drop k) k = if m.o.peer ≤ p then placeM p (ms.drop (k + 1)) (k + 1) else k := by
 have hk : k < ms.length := (List.getElem?_eq_some_iff.1 h).1
 have he : ms[k] = m := (List.getElem?_eq_some_iff.1 h).2
 unfold placeM
 rw [List.drop_eq_getElem_cons hk, he]; rfl
theorem placeM_end (p : Nat) (ms : List MOp) : placeM p (ms.drop ms.length) ms.length = ms.length := by
 unfold placeM; simp [placeW]
theorem placeM_le (p : Nat) (ms : List MOp) : placeM p ms 0 ≤ ms.length := by
 have := (placeW_spec p (ms.map MOp.o) 0).2.1
 simpa [placeM] using this
def contM (p : Nat) (ms : List MOp) (k : Nat) : Bool := match ms[k]? with | some m => decide (m.o.peer ≤ p) | none => false
theorem placeM_step (p : Nat) (ms : List MOp) (k : Nat) (hk : k ≤ ms.length) : placeM p (ms.drop k) k = if contM p ms k then placeM p (ms.drop (k + 1)) (k + 1) else k := by
 unfold contM
 cases h : ms[k]? with
 | some m =>
  rw [placeM_cont p ms k m h]
  simp
 | none =>
  have : k = ms.length := by have := List.getElem?_eq_none_iff.1 h; omega
  subst this
  rw [placeM_end]; rfl
theorem contM_lt (p : Nat) (ms : List MOp) (k : Nat) (h : contM p ms k = true) : k < ms.length := by
 unfold contM at h
 cases h2 : ms[k]? with
 | some e => exact (List.getElem?_eq_some_iff.1 h2).1
 | none => rw [h2] at h; cases h
set_option maxHeartbeats 1000000 in
set_option maxRecDepth 100000 in
theorem wait_any (bp : Nat) (cs : Array Value) (hv : Value) (ms : List MOp) (m : MOp) (w : World) (hb : w.heap[bp]? = some (.cells cs 69 (0, 0))) (hcs : cs[4]? = some hv) (hown : w.ownsRow 0 115 8 hv ms.length (opsCells ms)) (hn : ms.length ≤ 65536) :
  Calls Tryz.prog 65 #[.pointer (some ⟨bp, 0, none⟩), .agg #[.int .u8 m.o.kind, .int .u8 m.o.peer, .int .u32 m.o.num, .int .u32 m.o.clock, .slice (some ⟨m.g, 0, none⟩) m.o.seen.length m.cap, .int .u32 m.o.nclock, .int .u8 m.o.npeer, .int .i32 m.o.char]] w fun e' w' =>
   e' = .returned (.tuple #[]) ∧ ∃ hv', w'.ownsRow 0 115 8 hv' (ms.length + 1) (opsCells (ms.take (placeM m.o.peer ms 0) ++ m :: ms.drop (placeM m.o.peer ms 0))) ∧ w'.heap[bp]? = some (.cells (cs.setIfInBounds 4 hv') 69 (0, 0)) ∧
    Kept (fun k => k = bp ∨ hv.ownBlock = some k) w w' ∧ (∀ k, hv'.ownBlock = some k → hv.ownBlock = some k ∨ w.heap.size ≤ k) := by
 have h0 : w.cell? ⟨bp, 4, none⟩ = some hv := by rw [Lib.cell_of_heap hb, hcs]
 have hbw := lt_of_heap hb
 have hV := opsV_of_own hown
 go_enter Tryz.func65, Tryz.ntmps65
 go_wp2
 go_loopw [4] (fun i wr => ∃ k : Nat, k ≤ ms.length ∧ i = .int .i64 k ∧ Hid (placeM m.o.peer ms 0 = placeM m.o.peer (ms.drop k) k) ∧ Hid (wr.heap[w.heap.size]? = some (.cells #[.int .u8 m.o.kind, .int .u8 m.o.peer, .int .u32 m.o.num, .int .u32 m.o.clock, .slice (some ⟨m.g, 0, none⟩) m.o.seen.length m.cap, .int .u32 m.o.nclock, .int .u8 m.o.npeer, .int .i32 m.o.char] 115 (0, 0))) ∧ Kept (fun _ => False) w wr) (fun i _ => ms.length - (intOf i).toNat)
 case atStart => exact ⟨0, Nat.zero_le _, rfl, rfl, heap_alloc_new w _, (Kept.refl _ _).alloc _⟩
 case round =>
  obtain ⟨k, hk, rfl, hbg, hnb, hkp⟩ := hrel
  have r0 := hkp.cell' h0 (fun h => h)
  have hbr : bp < wr.heap.size := Nat.lt_of_lt_of_le hbw hkp.size
  go_wp2_with fail
  go_cut [24] (fun v wc => v = .bool (contM m.o.peer ms k) ∧ Kept (fun _ => False) wr wc)
  case first =>
   obtain ⟨a, cp, hrv2, he⟩ := hV
   subst hrv2
   by_cases hlt : k < ms.length
   ·obtain ⟨q, hek⟩ : ∃ q, ms[k]? = some q := ⟨_, List.getElem?_eq_getElem hlt⟩
    obtain ⟨g, rfl, heg⟩ := he (by intro h; rw [h] at hlt; simp at hlt)
    obtain ⟨c0, c1, _, _, _, _, _, _⟩ := (heg.kept hkp (fun h => h)) k q hek
    have d1 : wr.cell? ⟨w.heap.size, 1, none⟩ = some (.int .u8 m.o.peer) := by rw [Lib.cell_of_heap hnb.out]; rfl
    have dz : w.heap.size < wr.heap.size := lt_of_heap hnb.out
    have gz := World.block_lt_of_cell? wr _ c0
    have hct : Hid (contM m.o.peer ms k = decide ((q.o.peer : Int) ≤ (m.o.peer : Int))) := by
     show contM m.o.peer ms k = _
     unfold contM; rw [hek]; simp
    have hlt2 : (k : Int) < (ms.length : Int) := by omega
    have hlt3 : decide ((k : Int) < (ms.length : Int)) = true := by simpa using hlt2
    generalize (q.o.peer : Int) = Q at c1 hct
    clear hek he heg hown hb hcs
    go_quiet (fail)
    go_wp2_with fail
    go_meet
    exact ⟨by rw [hct.out], (Kept.refl _ _).drewN _⟩
   ·have hct : Hid (contM m.o.peer ms k = false) := by show contM m.o.peer ms k = false; unfold contM; rw [List.getElem?_eq_none (by omega)]
    have hge : decide ((k : Int) < (ms.length : Int)) = false := by rw [decide_eq_false_iff_not]; omega
    clear he hown hb hcs
    go_quiet (fail)
    go_wp2_with fail
    go_meet
    exact ⟨by rw [hct.out], (Kept.refl _ _).drewN _⟩
  case rest =>
   obtain ⟨rfl, hkc⟩ := hcut
   have hstep : Hid _ := placeM_step m.o.peer ms k hk
   cases hct : contM m.o.peer ms k
   ·have hkf : Hid (placeM m.o.peer ms 0 = k) := by
     have := hbg.out.trans hstep.out; rw [hct] at this; exact this
    have hkw : Kept (fun _ => False) w wc := hkp.trans' hkc
    have hnc := hkc.heap (S := fun _ => False) hnb.out (fun h => h)
    have d0 : wc.cell? ⟨w.heap.size, 0, none⟩ = some (.int .u8 m.o.kind) := by rw [Lib.cell_of_heap hnc]; rfl
    have d1 : wc.cell? ⟨w.heap.size, 1, none⟩ = some (.int .u8 m.o.peer) := by rw [Lib.cell_of_heap hnc]; rfl
    have d2 : wc.cell? ⟨w.heap.size, 2, none⟩ = some (.int .u32 m.o.num) := by rw [Lib.cell_of_heap hnc]; rfl
    have d3 : wc.cell? ⟨w.heap.size, 3, none⟩ = some (.int .u32 m.o.clock) := by rw [Lib.cell_of_heap hnc]; rfl
    have d4 : wc.cell? ⟨w.heap.size, 4, none⟩ = some (.slice (some ⟨m.g, 0, none⟩) m.o.seen.length m.cap) := by rw [Lib.cell_of_heap hnc]; rfl
    have d5 : wc.cell? ⟨w.heap.size, 5, none⟩ = some (.int .u32 m.o.nclock) := by rw [Lib.cell_of_heap hnc]; rfl
    have d6 : wc.cell? ⟨w.heap.size, 6, none⟩ = some (.int .u8 m.o.npeer) := by rw [Lib.cell_of_heap hnc]; rfl
    have d7 : wc.cell? ⟨w.heap.size, 7, none⟩ = some (.int .i32 m.o.char) := by rw [Lib.cell_of_heap hnc]; rfl
    have dz : w.heap.size < wc.heap.size := lt_of_heap hnc
    have r1 : wc.cell? ⟨bp, 4, none⟩ = some hv := hkw.cell' h0 (fun h => h)
    have hbc : bp < wc.heap.size := Nat.lt_of_lt_of_le hbw hkw.size
    have hob : ∀ k, hv.ownBlock = some k → k < w.heap.size ∧ k ≠ bp := fun k hk => by
     refine ⟨(hown.lt k hk).2, fun e => ?_⟩
     rcases hown.2 with ⟨rfl, _⟩ | ⟨g, cap, cur, rfl, _, hg, _⟩
     ·simp [Value.ownBlock] at hk
     ·simp [Value.ownBlock] at hk; rw [hk, e, hb] at hg; simp at hg
    have hcall : Calls Tryz.prog 91 #[hv, .int .i64 k, .slice (some ⟨wc.heap.size, 0, none⟩) 1 1] (wc.alloc (.cells #[.int .u8 m.o.kind, .int .u8 m.o.peer, .int .u32 m.o.num, .int .u32 m.o.clock, .slice (some ⟨m.g, 0, none⟩) m.o.seen.length m.cap, .int .u32 m.o.nclock, .int .u8 m.o.npeer, .int .i32 m.o.char] 115)).drew fun e' w4 =>
      ∃ g cap, e' = .returned (.slice (some ⟨g, 0, none⟩) (ms.length + 1) cap) ∧ Hid (w4.ownsRow 0 115 8 (.slice (some ⟨g, 0, none⟩) (ms.length + 1) cap) (ms.length + 1) (opsCells (ms.take k ++ m :: ms.drop k)) ∧ Kept (fun k => hv.ownBlock = some k) w w4 ∧ (hv.ownBlock = some g ∨ w.heap.size ≤ g)) ∧ w4.cell? ⟨bp, 4, none⟩ = some hv ∧ w4.frozen? ⟨bp, 4, none⟩ = false ∧ bp < w4.heap.size := by
     have hk0 : Kept (fun _ => False) w (wc.alloc (.cells #[.int .u8 m.o.kind, .int .u8 m.o.peer, .int .u32 m.o.num, .int .u32 m.o.clock, .slice (some ⟨m.g, 0, none⟩) m.o.seen.length m.cap, .int .u32 m.o.nclock, .int .u8 m.o.npeer, .int .i32 m.o.char] 115)).drew := (hkw.alloc _).drew
     refine (opInsert_any ms m k hv wc.heap.size 1 _ hk (by omega) (ownsRow_kept hown hk0 (fun _ _ h => h)) (heap_alloc_new wc _) (fun e => by have := (hob _ e).1; omega)).mono ?_
     rintro e' w4 ⟨g, cap, rfl, x1, x2, x3⟩
     have hk4 : Kept (fun k => hv.ownBlock = some k) w w4 := (hk0.mono (fun _ _ h => h.elim)).trans x2 (fun _ _ h => h)
     refine ⟨g, cap, rfl, ⟨x1, hk4, ?_⟩, hk4.cell' h0 (fun h => (hob bp h).2 rfl), ?_, Nat.lt_of_lt_of_le hbw hk4.size⟩
     ·rcases x3 with h | h
      ·exact Or.inl h
      ·exact Or.inr (Nat.le_trans hk0.size h)
     ·rw [hk4.frozen (p := ⟨bp, 4, none⟩) hbw (fun h => (hob bp h).2 rfl)]; exact Lib.frozen_of_heap hb 4
    have HP : Hid (Kept (fun _ => False) w wc ∧ ∀ k, hv.ownBlock = some k → k < w.heap.size ∧ k ≠ bp) := ⟨hkw, hob⟩
    have HB : Hid (w.heap[bp]? = some (.cells cs 69 (0, 0))) := hb
    clear hob hkw hnc hct hkp hkc hown hV hb hcs r0 h0 hstep
    go_wp2_with fail
    go_region_with (go_at_call 91; refine hcall.mono ?_; rintro e4 w4 ⟨g4, cap4, rfl, X4, c4, f4, z4⟩)
    all_goals
     go_end0
     obtain ⟨x1, x2, x3⟩ := X4.out
     refine ⟨rfl, .slice (some ⟨g4, 0, none⟩) (ms.length + 1) cap4, ?_, ?_, ?_, ?_⟩
     ·rw [hkf.out]
      exact ownsRow_kept x1 ((Kept.refl (fun k => k = bp) w4).setCell (p := ⟨bp, 4, none⟩) (fun _ => rfl) _) (fun j hj hjb => by
       simp [Value.ownBlock] at hj
       rcases x3 with h | h
       ·exact (HP.out.2 g4 h).2 (by omega)
       ·omega)
     ·exact heap_set_same (x2.heap HB.out (fun h => (HP.out.2 bp h).2 rfl)) 4 _
     ·exact Kept.setCell (S := fun k => k = bp ∨ hv.ownBlock = some k) (x2.mono (fun k _ h => Or.inr h)) (p := ⟨bp, 4, none⟩) (fun _ => Or.inl rfl) _
     ·intro j hj; simp [Value.ownBlock] at hj; subst hj; exact x3
   ·have hlt := contM_lt m.o.peer ms k hct
    have hbg2 : Hid (placeM m.o.peer ms 0 = placeM m.o.peer (ms.drop (k + 1)) (k + 1)) := by
     have := hbg.out.trans hstep.out; rw [hct] at this; exact this
    clear hct hstep
    go_wp2
    go_roundw
    case rel => exact ⟨k + 1, by omega, by go_num, hbg2, hkc.heap (S := fun _ => False) hnb.out (fun h => h), hkp.trans' hkc⟩
    case measure => simp [intOf]; omega
end Go.Proofs.YtgfafbanahiigaaGreat
