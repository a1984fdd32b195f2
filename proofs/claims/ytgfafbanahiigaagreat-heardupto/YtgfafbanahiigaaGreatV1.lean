import Derived.Test.YtgfafbanahiigaaGreatInfo
import Derived.Test.YtgfafbanahiigaaGreatM9
import Derived.Test.YtgfafbanahiigaaGreatShelf
import Derived.Laws.MathBits
set_option linter.unusedVariables false
set_option linter.unusedSimpArgs false
namespace Go.Proofs.YtgfafbanahiigaaGreat
open Go.RowKit Go.Chorus
def sizeB (k N : Nat) : Nat := if k = 1 then 23 + 4 * N else if k = 2 then 19 + 4 * N else 0
set_option maxHeartbeats 400000 in
theorem opSize_any (k N : Nat) (hk : k < 256) (hN : N ≤ 8) (w : World) :
  Calls Tryz.prog 85 #[.int .u8 k, .int .i64 N] w fun e' w' => e' = .returned (.int .i64 (sizeB k N)) ∧ w' = w := by
 by_cases h1 : k = 1
 ·subst h1
  go_enter Tryz.func85, Tryz.ntmps85
  go_wp2
  go_ret
  exact ⟨ret_int (by unfold sizeB; simp; omega), rfl⟩
 ·by_cases h2 : k = 2
  ·subst h2
   go_enter Tryz.func85, Tryz.ntmps85
   go_wp2
   go_ret
   exact ⟨ret_int (by unfold sizeB; simp; omega), rfl⟩
  ·have e1 : ((k : Int) == 1) = false := by simp; omega
   have e2 : ((k : Int) == 2) = false := by simp; omega
   have e3 : ¬ ((k : Int) = 1) := by omega
   have e4 : ¬ ((k : Int) = 2) := by omega
   have HS : Hid (sizeB k N = 0) := by show sizeB k N = 0; unfold sizeB; rw [if_neg h1, if_neg h2]
   clear h1 h2
   go_enter Tryz.func85, Tryz.ntmps85
   go_wp2
   go_ret
   exact ⟨ret_int (by rw [HS.out]; rfl), rfl⟩
def ReaderAt (w : World) (b : Nat) (l : List UInt8) (at_ : Nat) : Prop := w.heap[b]? = some (.cells #[.string ⟨l.toArray⟩, .int .i64 at_] 152 (0, 0))
set_option maxHeartbeats 400000 in
theorem rdOne_any (b : Nat) (l : List UInt8) (at_ : Nat) (w : World) (h : ReaderAt w b l at_) (ha : at_ < l.length) (hl : l.length ≤ 4294967296) :
  Calls Tryz.prog 102 #[.pointer (some ⟨b, 0, none⟩)] w fun e' w' => e' = .returned (.int .u8 (rd1 l at_)) ∧ ReaderAt w' b l (at_ + 1) ∧ Kept (fun k => k = b) w w' := by
 have hb := lt_of_heap h
 have c0 : w.cell? ⟨b, 0, none⟩ = some (.string ⟨l.toArray⟩) := by rw [Lib.cell_of_heap h]; rfl
 have c1 : w.cell? ⟨b, 1, none⟩ = some (.int .i64 at_) := by rw [Lib.cell_of_heap h]; rfl
 have fz : ∀ j, w.frozen? ⟨b, j, none⟩ = false := Lib.frozen_of_heap h
 have HR : Hid (ReaderAt (w.setCell ⟨b, 1, none⟩ (.int .i64 ((at_ : Int) + 1))) b l (at_ + 1)) := by
  show (World.heap _)[b]? = _
  rw [heap_set_same h]; rfl
 have HK : Hid (Kept (fun k => k = b) w (w.setCell ⟨b, 1, none⟩ (.int .i64 ((at_ : Int) + 1)))) := Kept.setCell (S := fun k => k = b) (Kept.refl _ w) (p := ⟨b, 1, none⟩) (fun _ => rfl) _
 have hd : Hid (rd1 l at_ = l[at_].toNat) := by
  show rd1 l at_ = _
  unfold rd1; rw [List.getD_eq_getElem?_getD, List.getElem?_eq_getElem ha]; rfl
 clear h
 go_enter Tryz.func102, Tryz.ntmps102
 go_wp2
 go_region
 go_wp2
 go_ret
 exact ⟨ret_int (by rw [hd.out]; rfl), HR.out, HK.out.drew⟩
def rdTo (l : List UInt8) (at_ k : Nat) : Nat := readBE ((l.drop at_).take k)
theorem rdTo_succ (l : List UInt8) (at_ k : Nat) (h : at_ + k < l.length) : rdTo l at_ (k + 1) = 256 * rdTo l at_ k + rd1 l (at_ + k) := by
 unfold rdTo readBE rd1
 rw [List.take_succ_eq_append_getElem (by simp; omega), List.foldl_append]
 simp [List.getD_eq_getElem?_getD, List.getElem?_eq_getElem h]
theorem rdTo_lt (l : List UInt8) (at_ k : Nat) : k ≤ 4 → at_ + k ≤ l.length → rdTo l at_ k < 256 ^ k := by
 induction k with
 | zero => intro _ _; simp [rdTo, readBE]
 | succ k ih =>
  intro h1 h2
  rw [rdTo_succ l at_ k (by omega), Nat.pow_succ]
  have := ih (by omega) (by omega)
  have : rd1 l (at_ + k) < 256 := UInt8.toNat_lt _
  omega
theorem or_byte (n b : Nat) (hn : n < 16777216) (hb : b < 256) : bits BinOp.or IntKind.u32 ((n : Int) * 256) (b : Int) = ((256 * n + b : Nat) : Int) := by go_bits2
theorem rd4_lt (l : List UInt8) (i : Nat) (h : i + 4 ≤ l.length) : rd4 l i < 4294967296 := by
 have := rdTo_lt l i 4 (by omega) h
 exact this
set_option maxHeartbeats 400000 in
theorem rdFour_any (b : Nat) (l : List UInt8) (at_ : Nat) (w : World) (h : ReaderAt w b l at_) (ha : at_ + 4 ≤ l.length) (hl : l.length ≤ 4294967296) :
  Calls Tryz.prog 87 #[.pointer (some ⟨b, 0, none⟩)] w fun e' w' => e' = .returned (.int .u32 (rd4 l at_)) ∧ ReaderAt w' b l (at_ + 4) ∧ Kept (fun k => k = b) w w' := by
 go_enter Tryz.func87, Tryz.ntmps87
 go_wp2
 go_loopw [3, 4] (fun n i wr => ∃ k : Nat, k ≤ 4 ∧ i = .int .i64 k ∧ n = .int .u32 (rdTo l at_ k) ∧ ReaderAt wr b l (at_ + k) ∧ Kept (fun k => k = b) w wr) (fun _ i _ => 4 - (intOf i).toNat)
 case atStart => exact ⟨0, Nat.zero_le _, rfl, rfl, h, Kept.refl _ _⟩
 case round =>
  obtain ⟨k, hk, rfl, rfl, hR, hK⟩ := hrel
  by_cases hlt : k < 4
  ·have hs : Hid (rdTo l at_ (k + 1) = 256 * rdTo l at_ k + rd1 l (at_ + k)) := rdTo_succ l at_ k (by omega)
   have h1 : rd1 l (at_ + k) < 256 := UInt8.toNat_lt _
   have h2 : rdTo l at_ k < 16777216 := by
    have := rdTo_lt l at_ k hk (by omega)
    have h3 : 256 ^ k ≤ 256 ^ 3 := Nat.pow_le_pow_right (by decide) (by omega)
    omega
   go_wp2_with fail
   refine (rdOne_any b l (at_ + k) wr hR (by omega) hl).mono ?_
   rintro e' w' ⟨rfl, hR', hK'⟩
   generalize rdTo l at_ k = n at hs h2
   go_wp2
   go_roundw
   case rel => exact ⟨k + 1, by omega, by go_num, by rw [or_byte n _ h2 h1, hs.out], hR', hK.trans' hK'⟩
   case measure => simp [intOf]; omega
  ·have hk4 : k = 4 := by omega
   subst hk4
   generalize hn : rdTo l at_ 4 = n
   have HN : Hid (rd4 l at_ = n) := hn
   clear hn
   go_wp2
   go_ret
   exact ⟨ret_int (by rw [HN.out]), hR, hK⟩
end Go.Proofs.YtgfafbanahiigaaGreat
