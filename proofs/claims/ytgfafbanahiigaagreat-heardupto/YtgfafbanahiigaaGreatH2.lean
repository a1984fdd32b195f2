import Derived.Test.YtgfafbanahiigaaGreatH1
import Derived.Deep.QuietTactic
import Derived.BigQuiet
set_option linter.unusedVariables false
set_option linter.unusedSimpArgs false
namespace Go.Proofs.YtgfafbanahiigaaGreat
open Go.RowKit Go.Chorus

set_option maxHeartbeats 400000 in
theorem hPeers_any (b o n c : Nat) (a : Option Addr) (w : World) (h0 : w.cell? ⟨b, o, none⟩ = some (.slice a n c)) :
    Calls Tryz.prog 28 #[.pointer (some ⟨b, o, none⟩)] w fun e' w' => e' = .returned (.int .i64 n) ∧ w' = w := by
  have hb := World.block_lt_of_cell? w _ h0
  go_enter Tryz.func28, Tryz.ntmps28
  go_wp2
  go_ret
  exact ⟨rfl, rfl⟩

set_option maxHeartbeats 400000 in
theorem hCount_any (b o n c kb p x cp : Nat) (a : Option Addr) (w : World) (h0 : w.cell? ⟨b, o, none⟩ = some (.slice (some ⟨kb, 0, none⟩) n c)) (h1 : w.cell? ⟨kb, p, none⟩ = some (.slice a x cp)) (hp : p < n) (hx : x < 4294967296) :
    Calls Tryz.prog 42 #[.pointer (some ⟨b, o, none⟩), .int .u8 p] w fun e' w' => e' = .returned (.int .u32 x) ∧ w' = w := by
  have hb := World.block_lt_of_cell? w _ h0
  have hk := World.block_lt_of_cell? w _ h1
  have hp2 : (p : Int) < (n : Int) := by omega
  go_enter Tryz.func42, Tryz.ntmps42
  go_wp2
  go_ret
  exact ⟨rfl, rfl⟩

/-- How many of a peer's there are. -/
theorem hCount_log (b o c p x : Nat) (K : Log) (known : List Nat) (w : World) (h0 : w.cell? ⟨b, o, none⟩ = some (.slice (some ⟨K.b, 0, none⟩) known.length c)) (h : LogAt w K known) (hx : known[p]? = some x) (hx2 : x < 4294967296) :
    Calls Tryz.prog 42 #[.pointer (some ⟨b, o, none⟩), .int .u8 p] w fun e' w' => e' = .returned (.int .u32 x) ∧ w' = w := by
  obtain ⟨v, l, hv, hl, hlx, hr, hc⟩ := h.one hx
  obtain ⟨a, cap, rfl, _, _⟩ := own_slice hr
  exact hCount_any b o known.length c K.b p x cap a w h0 hc (List.getElem?_eq_some_iff.1 hx).1 hx2

theorem u32s_filled (l : List Nat) (k : Nat) (n : Nat) (h : l[k]? = some n) : u32s (filled l (k + 1)) = (u32s (filled l k)).setIfInBounds k (.int .u32 n) := by
  rw [filled_succ l k n h]; simp [u32s, List.map_set]

set_option maxHeartbeats 400000 in
theorem hCounts_log (b o c : Nat) (K : Log) (known : List Nat) (w : World) (h0 : w.cell? ⟨b, o, none⟩ = some (.slice (some ⟨K.b, 0, none⟩) known.length c)) (h : LogAt w K known) (hn : known.length ≤ 8) (hf : ∀ n ∈ known, n < 4294967296) :
    Calls Tryz.prog 29 #[.pointer (some ⟨b, o, none⟩)] w fun e' w' => e' = .returned (.slice (some ⟨w.heap.size, 0, none⟩) known.length known.length) ∧ w'.heap[w.heap.size]? = some (.cells (u32s known) 63 (0, 0)) ∧ Kept (fun _ => False) w w' := by
  obtain ⟨i0, hi, hz0, hz1, hz2⟩ := info_parts info_u32
  have hmk : ∀ w : World, (Instr.makeSlice 80 (.int .i64 known.length) (.int .i64 known.length)).run Tryz.prog w = .ok (.slice (some ⟨w.heap.size, 0, none⟩) known.length known.length) (w.alloc (.cells (u32s (List.replicate known.length 0)) 63)) := fun w => by
    rw [run_make w 80 63 i0 (.int .u32 0) Tryz.underlying80 hi hz0 .i64 .i64 known.length known.length (by omega) (by omega) (by rw [hz2]; omega) (by omega), hz1, ← made_zeros]; rfl
  clear hi hz0 hz1 hz2
  have hb := World.block_lt_of_cell? w _ h0
  go_enter Tryz.func29, Tryz.ntmps29
  go_wp2
  go_loopw [13] (fun i wr => ∃ k : Nat, k ≤ known.length ∧ i = .int .i64 k ∧ wr.heap[w.heap.size]? = some (.cells (u32s (filled known k)) 63 (0, 0)) ∧ Kept (fun _ => False) w wr) (fun i _ => known.length - (intOf i).toNat)
  case atStart => exact ⟨0, Nat.zero_le _, rfl, by rw [filled_zero]; exact heap_alloc_new w _, (Kept.refl _ _).alloc _⟩
  case round =>
    obtain ⟨k, hk, rfl, hc, hkp⟩ := hrel
    by_cases hlt : k < known.length
    · obtain ⟨n, hek⟩ : ∃ n, known[k]? = some n := ⟨_, List.getElem?_eq_getElem hlt⟩
      have hn2 := hf n (List.mem_of_getElem? hek)
      have HE : Hid (known[k]? = some n) := hek
      have HCC : Hid (wr.heap[w.heap.size]? = some (.cells (u32s (filled known k)) 63 (0, 0))) := hc
      clear hek hc
      go_wp2_with fail
      refine (hCount_log b o c k n K known _ (hkp.cell' h0 (fun h => h)) (h.quiet hkp) HE.out hn2).mono ?_
      rintro e1 w1 ⟨rfl, hw1⟩
      have hk1 : Kept (fun _ => False) wr w1 := by rw [hw1]; exact Kept.refl _ _
      clear hw1
      have hc1 := hk1.heap HCC.out (fun h => h)
      have gsz : w.heap.size < w1.heap.size := lt_of_heap hc1
      obtain ⟨v, g1⟩ : ∃ v, w1.cell? ⟨w.heap.size, k, none⟩ = some v := by
        rw [Lib.cell_of_heap hc1]; exact ⟨_, Array.getElem?_eq_getElem (by simp [u32s, filled_length known k hk]; exact hlt)⟩
      have g2 : w1.frozen? ⟨w.heap.size, k, none⟩ = false := Lib.frozen_of_heap hc1 k
      have HC : Hid ((w1.setCell ⟨w.heap.size, k, none⟩ (.int .u32 n)).heap[w.heap.size]? = some (.cells (u32s (filled known (k + 1))) 63 (0, 0))) := by
        rw [u32s_filled known k n HE.out]; exact heap_set_same hc1 k _
      have hkw := hkp.trans' hk1
      clear hc1
      go_wp2
      go_roundw
      case rel => exact ⟨k + 1, by omega, by go_num, HC.out, hkw.setCell (fun h => absurd h (Nat.lt_irrefl _)) _⟩
      case measure => simp [intOf]; omega
    · have hke : k = known.length := by omega
      subst hke
      rw [filled_all] at hc
      go_wp2
      go_ret
      exact ⟨rfl, hc, hkp⟩

end Go.Proofs.YtgfafbanahiigaaGreat
