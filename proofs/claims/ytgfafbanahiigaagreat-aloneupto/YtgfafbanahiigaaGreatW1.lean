import Derived.Test.YtgfafbanahiigaaGreatInfo
import Derived.Deep.QuietTactic
import Derived.BigQuiet
namespace Go.Proofs.YtgfafbanahiigaaGreat
open Go.RowKit Go.Chorus
set_option maxHeartbeats 400000 in
theorem greater_any (c1 p1 c2 p2 : Int) (w : World) :
  Calls Tryz.prog 98 #[.agg #[.int .u32 c1, .int .u8 p1], .agg #[.int .u32 c2, .int .u8 p2]] w fun e w' =>
   e = .returned (.bool (greaterB c1 p1 c2 p2)) ∧ Kept (fun _ => False) w w' := by
 by_cases h : c1 = c2
 ·subst h
  go_enter Tryz.func98, Tryz.ntmps98
  go_wp2
  go_ret
  exact ⟨ret_bool (by simp [greaterB]), ((Kept.refl _ _).alloc _).alloc _⟩
 ·go_enter Tryz.func98, Tryz.ntmps98
  go_wp2
  go_ret
  exact ⟨ret_bool (by simp [greaterB, h]), ((Kept.refl _ _).alloc _).alloc _⟩
set_option maxHeartbeats 400000 in
theorem clos_any (c p : Int) (e : El) (b : Nat) (w : World) (h0 : w.cell? ⟨b, 0, none⟩ = some (.int .u32 c)) (h1 : w.cell? ⟨b, 1, none⟩ = some (.int .u8 p)) :
  Calls Tryz.prog 108 #[.agg #[.int .u32 e.clock, .int .u8 e.peer, .int .i32 e.char, .bool e.dead], .pointer (some ⟨b, 0, none⟩)] w fun e' w' =>
   e' = .returned (.bool (decide ((e.clock : Int) = c ∧ (e.peer : Int) = p))) ∧ Kept (fun _ => False) w w' := by
 have hb : b < w.heap.size := World.block_lt_of_cell? w _ h0
 go_enter Tryz.func108, Tryz.ntmps108
 go_wp2
 all_goals go_ret
 all_goals exact ⟨by simp [*], (Kept.refl _ _).alloc _⟩
set_option maxHeartbeats 400000 in
theorem indexFunc_any (c p : Int) (es : List El) (a : Option Addr) (cp b : Nat) (w : World) (he : es ≠ [] → ∃ g, a = some ⟨g, 0, none⟩ ∧ ElemsAt w g es) (hn : es.length ≤ 4294967296)
  (h0 : w.cell? ⟨b, 0, none⟩ = some (.int .u32 c)) (h1 : w.cell? ⟨b, 1, none⟩ = some (.int .u8 p)) :
  Calls Tryz.prog 107 #[.slice a es.length cp, .func (.func 108) #[] #[.pointer (some ⟨b, 0, none⟩)]] w fun e' w' =>
   e' = .returned (.int .i64 (findFrom c p es 0)) ∧ Kept (fun _ => False) w w' := by
 go_enter Tryz.func107, Tryz.ntmps107
 go_wp2
 go_loopw [8] (fun i wr => ∃ k : Nat, k ≤ es.length ∧ i = .int .i64 k ∧ Hid (findFrom c p es 0 = findFrom c p (es.drop k) k) ∧ Kept (fun _ => False) w wr) (fun i _ => es.length - (intOf i).toNat)
 case atStart => exact ⟨0, Nat.zero_le _, rfl, rfl, Kept.refl _ _⟩
 case round =>
  obtain ⟨k, hk, rfl, hf, hkp⟩ := hrel
  by_cases hlt : k < es.length
  ·obtain ⟨e, hek⟩ : ∃ e, es[k]? = some e := ⟨_, List.getElem?_eq_getElem hlt⟩
   obtain ⟨g, rfl, heg⟩ := he (by intro h; rw [h] at hlt; simp at hlt)
   obtain ⟨c0, c1, c2, c3⟩ := (heg.kept hkp (fun h => h)) k e hek
   have HF : Hid (es[k]? = some e) := hek
   clear hek
   go_wp2_with fail
   refine (clos_any c p e b wr (hkp.cell' h0 (fun h => h)) (hkp.cell' h1 (fun h => h))).mono ?_
   rintro e' w' ⟨rfl, hk2⟩
   by_cases hm : (e.clock : Int) = c ∧ (e.peer : Int) = p
   ·have hd : decide ((e.clock : Int) = c ∧ (e.peer : Int) = p) = true := by simpa using hm
    have hres : Hid (findFrom c p es 0 = k) := by
     have := hf.out; rw [findFrom_drop c p es k e HF.out, if_pos hm] at this; exact this
    clear hm
    go_wp2
    go_ret
    exact ⟨ret_int hres.out.symm, hkp.trans' hk2⟩
   ·have hd : decide ((e.clock : Int) = c ∧ (e.peer : Int) = p) = false := by simpa using hm
    have hres : Hid (findFrom c p es 0 = findFrom c p (es.drop (k + 1)) (k + 1)) := by
     have := hf.out; rw [findFrom_drop c p es k e HF.out, if_neg hm] at this; exact this
    clear hm
    go_wp2
    go_roundw
    case rel => exact ⟨k + 1, by omega, by go_num, hres, hkp.trans' hk2⟩
    case measure => simp [intOf]; omega
  ·go_wp2
   go_ret
   have : k = es.length := by omega
   subst this
   exact ⟨ret_int (by rw [hf.out]; simp [findFrom]), hkp⟩
set_option maxHeartbeats 400000 in
theorem find_any (c p : Int) (es : List El) (b o : Nat) (v : Value) (w : World) (h0 : w.cell? ⟨b, o, none⟩ = some v) (hv : RowV w v es) (hn : es.length ≤ 4294967296) :
  Calls Tryz.prog 97 #[.pointer (some ⟨b, o, none⟩), .agg #[.int .u32 c, .int .u8 p]] w fun e' w' =>
   e' = .returned (.tuple #[.int .i64 (findFrom c p es 0), .bool (decide (0 ≤ findFrom c p es 0))]) ∧ Kept (fun _ => False) w w' := by
 have hb : b < w.heap.size := World.block_lt_of_cell? w _ h0
 obtain ⟨a, cp, rfl, he⟩ := hv
 go_enter Tryz.func97, Tryz.ntmps97
 go_wp2_with fail
 refine (indexFunc_any c p es a cp w.heap.size _ ?_ hn ?_ ?_).mono ?_
 ·intro hne
  obtain ⟨g, rfl, heg⟩ := he hne
  exact ⟨g, rfl, heg.kept ((Kept.refl (fun _ => False) w).alloc _) (fun h => h)⟩
 ·simp
 ·simp
 rintro e' w' ⟨rfl, hk2⟩
 go_wp2
 go_ret2
 exact ⟨rfl, ((Kept.refl _ w).alloc _).trans' hk2⟩
set_option maxHeartbeats 400000 in
theorem placeBehind_any (c p : Int) (es : List El) (b o : Nat) (v : Value) (w : World) (h0 : w.cell? ⟨b, o, none⟩ = some v) (hv : RowV w v es) (hn : es.length ≤ 4294967296) :
  Calls Tryz.prog 96 #[.pointer (some ⟨b, o, none⟩), .agg #[.int .u32 c, .int .u8 p]] w fun e' w' =>
   e' = .returned (.tuple #[.int .i64 (placeOf c p es), .bool (placeOk c p es)]) ∧ Kept (fun _ => False) w w' := by
 have hb : b < w.heap.size := World.block_lt_of_cell? w _ h0
 have hr1 := findFrom_lo c p es 0
 have hr2 := findFrom_le c p es
 by_cases hz : c = 0 ∧ p = 0
 ·obtain ⟨rfl, rfl⟩ := hz
  go_enter Tryz.func96, Tryz.ntmps96
  go_wp2
  go_ret2
  exact ⟨rfl, (Kept.refl _ w).alloc _⟩
 ·have h1 : Hid (placeOf c p es = findFrom c p es 0 + 1) := by unfold placeOf; rw [if_neg hz]; exact rfl
  have h2 : Hid (placeOk c p es = decide (0 ≤ findFrom c p es 0)) := by unfold placeOk; rw [if_neg hz]; exact rfl
  by_cases hc : c = 0
  ·have hp : ¬ p = 0 := fun h => hz ⟨hc, h⟩
   clear hz
   subst hc
   go_enter Tryz.func96, Tryz.ntmps96
   go_wp2_with fail
   refine (find_any _ p es b o v _ ?_ (hv.kept ((Kept.refl (fun _ => False) w).alloc _) (fun _ _ h => h)) hn).mono ?_
   ·exact ((Kept.refl (fun _ => False) w).alloc _).cell' h0 (fun h => h)
   rintro e' w' ⟨rfl, hk2⟩
   go_wp2
   go_ret2
   exact ⟨by rw [h1.out, h2.out]; rfl, ((Kept.refl _ w).alloc _).trans' hk2⟩
  ·clear hz
   go_enter Tryz.func96, Tryz.ntmps96
   go_wp2_with fail
   refine (find_any _ p es b o v _ ?_ (hv.kept ((Kept.refl (fun _ => False) w).alloc _) (fun _ _ h => h)) hn).mono ?_
   ·exact ((Kept.refl (fun _ => False) w).alloc _).cell' h0 (fun h => h)
   rintro e' w' ⟨rfl, hk2⟩
   go_wp2
   go_ret2
   exact ⟨by rw [h1.out, h2.out]; rfl, ((Kept.refl _ w).alloc _).trans' hk2⟩
def nameRet : Option El → Value
 | some e => .tuple #[.agg #[.int .u32 e.clock, .int .u8 e.peer], .bool true]
 | none => .tuple #[.agg #[.int .u32 0, .int .u8 0], .bool false]
set_option maxHeartbeats 400000 in
theorem nameAt_any (at_ : Int) (es : List El) (b o : Nat) (v : Value) (w : World) (h0 : w.cell? ⟨b, o, none⟩ = some v) (hv : RowV w v es) (hn : es.length ≤ 4294967296) :
  Calls Tryz.prog 49 #[.pointer (some ⟨b, o, none⟩), .int .i64 at_] w fun e' w' =>
   e' = .returned (nameRet (liveAt es at_)) ∧ Kept (fun _ => False) w w' := by
 have hb : b < w.heap.size := World.block_lt_of_cell? w _ h0
 obtain ⟨a, cp, rfl, he⟩ := hv
 go_enter Tryz.func49, Tryz.ntmps49
 go_wp2
 go_loopw [6, 14] (fun d i wr => ∃ k m : Nat, k ≤ es.length ∧ m ≤ k ∧ i = .int .i64 k ∧ d = .int .i64 m ∧ Hid (liveAt es at_ = liveAt (es.drop k) (at_ - m)) ∧ Kept (fun _ => False) w wr ∧ wr.heap[w.heap.size]? = some (.cells #[.int .u32 0, .int .u8 0] 100 (0, 0))) (fun _ i _ => es.length - (intOf i).toNat)
 case atStart => exact ⟨0, 0, Nat.zero_le _, Nat.le_refl _, rfl, rfl, by simp [Hid], (Kept.refl _ _).alloc _, heap_alloc_new w _⟩
 case round =>
  obtain ⟨k, m, hk, hm, rfl, rfl, hf, hkp, hcell⟩ := hrel
  have g0 : wr.cell? ⟨w.heap.size, 0, none⟩ = some (.int .u32 0) := by rw [Lib.cell_of_heap hcell]; rfl
  have g1 : wr.cell? ⟨w.heap.size, 1, none⟩ = some (.int .u8 0) := by rw [Lib.cell_of_heap hcell]; rfl
  have gz : ∀ j, wr.frozen? ⟨w.heap.size, j, none⟩ = false := Lib.frozen_of_heap hcell
  have gs : w.heap.size < wr.heap.size := lt_of_heap hcell
  by_cases hlt : k < es.length
  ·obtain ⟨e, hek⟩ : ∃ e, es[k]? = some e := ⟨_, List.getElem?_eq_getElem hlt⟩
   obtain ⟨g, rfl, heg⟩ := he (by intro h; rw [h] at hlt; simp at hlt)
   obtain ⟨c0, c1, c2, c3⟩ := (heg.kept hkp (fun h => h)) k e hek
   have hres : Hid _ := hf.out.trans (liveAt_drop es k e hek _)
   clear hek
   have HC : Hid _ := hcell
   clear hcell
   cases hdead : e.dead
   ·rw [hdead] at c3
    by_cases hat : (m : Int) = at_
    ·have hr2 : Hid (liveAt es at_ = some e) := by
      rw [hres.out, hdead]; simp; intro h; omega
     have hat2 : ((m : Int) == at_) = true := by simpa using hat
     clear hat hdead
     go_wp2
     rw [hr2.out]
     refine bodyPost_ret (v := nameRet (some e)) (by simp [results, Tryz.results49, go_sem, nameRet, g0, g1, gs]) rfl ⟨rfl, ?_⟩
     exact ((hkp.setCell (fun h => absurd h (Nat.lt_irrefl _)) _).setCell (fun h => absurd h (Nat.lt_irrefl _)) _).alloc _
    ·have hr2 : Hid (liveAt es at_ = liveAt (es.drop (k + 1)) (at_ - ((m + 1 : Nat) : Int))) := by
      rw [hres.out, hdead]; simp; rw [if_neg (by omega)]; congr 1; omega
     have hat2 : ((m : Int) == at_) = false := by simpa using hat
     clear hat hdead
     go_wp2
     go_roundw
     case rel => exact ⟨k + 1, m + 1, by omega, by omega, by go_num, by go_num, hr2, hkp.alloc _, by rw [Below.heap_alloc _ _ _ gs]; exact HC.out⟩
     case measure => simp [intOf]; omega
   ·rw [hdead] at c3
    have hr2 : Hid (liveAt es at_ = liveAt (es.drop (k + 1)) (at_ - (m : Int))) := by
      rw [hres.out, hdead]; exact rfl
    clear hdead
    go_wp2
    go_roundw
    case rel => exact ⟨k + 1, m, by omega, by omega, by go_num, rfl, hr2, hkp.alloc _, by rw [Below.heap_alloc _ _ _ gs]; exact HC.out⟩
    case measure => simp [intOf]; omega
  ·have : k = es.length := by omega
   have hr2 : Hid (liveAt es at_ = none) := by rw [hf.out, this, List.drop_length]; exact rfl
   clear this
   go_wp2
   rw [hr2.out]
   refine bodyPost_ret (v := nameRet none) (by simp [results, Tryz.results49, go_sem, nameRet, g0, g1]) rfl ⟨rfl, ?_⟩
   exact (hkp.setCell (fun h => absurd h (Nat.lt_irrefl _)) _).setCell (fun h => absurd h (Nat.lt_irrefl _)) _
end Go.Proofs.YtgfafbanahiigaaGreat
