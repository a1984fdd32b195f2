import Derived.Test.YtgmbigjdaliadaaW2
namespace Go.Proofs.Ytgmbigjdaliadaa
open Go.RowKit Go.Chorus

/-- A peer: its block, what it holds; its list of numbers; its row. -/
structure PeerAt (w : World) (bp : Nat) (me clock : Nat) (known : List Nat) (es : List El) (bk : Nat) (rv hv : Value) : Prop where
  block : w.heap[bp]? = some (.cells #[.int .u8 me, .int .u32 clock, .slice (some ⟨bk, 0, none⟩) known.length known.length, rv, hv] 79 (0, 0))
  knownB : w.heap[bk]? = some (.cells (u32s known) 73 (0, 0))
  row : w.ownsRow 0 105 4 rv es.length (rowCells es)

set_option maxHeartbeats 400000 in
theorem kpick_any (c n : Int) (w : World) (hn0 : 0 < n) (hn1 : n ≤ 9223372036854775807) (hc0 : -9223372036854775808 ≤ c) (hc1 : c ≤ 9223372036854775807) :
    Calls Try.prog 15 #[.int .i64 c, .int .i64 n] w fun e' w' => e' = .returned (.int .i64 (pickN c n)) ∧ w' = w := by
  by_cases h : c < 0
  · go_enter Try.func15, Try.ntmps15
    go_wp2
    go_ret
    exact ⟨ret_int (by unfold pickN; rw [if_pos h, ← Int.neg_tmod, Int.tmod_eq_emod_of_nonneg (by omega)]), rfl⟩
  · go_enter Try.func15, Try.ntmps15
    go_wp2
    go_ret
    exact ⟨ret_int (by unfold pickN; rw [if_neg (by omega)]), rfl⟩

set_option maxHeartbeats 400000 in
theorem new_any (peer peers : Nat) (w : World) (h1 : 1 ≤ peers) (h2 : peers ≤ 8) (h4 : peer < peers) :
    Calls Try.prog 14 #[.int .i64 peer, .int .i64 peers] w fun e' w' => ∃ bp bk, e' = .returned (.tuple #[.pointer (some ⟨bp, 0, none⟩), .int .i64 0]) ∧
      PeerAt w' bp peer 0 (List.replicate peers 0) [] bk (.slice none 0 0) (.slice none 0 0) ∧ w.heap.size ≤ bp ∧ w.heap.size ≤ bk ∧ Kept (fun _ => False) w w' := by
  obtain ⟨i0, hi, hz0, hz1, hz2⟩ := info_parts info_u32
  have hmk : ∀ w : World, (Instr.makeSlice 72 (.int .i64 peers) (.int .i64 peers)).run Try.prog w = .ok (.slice (some ⟨w.heap.size, 0, none⟩) peers peers) (w.alloc (.cells (u32s (List.replicate peers 0)) 73)) := fun w => by
    rw [run_make w 72 73 i0 (.int .u32 0) Try.underlying72 hi hz0 .i64 .i64 peers peers (by omega) (by omega) (by rw [hz2]; omega) (by omega), hz1, ← made_zeros]; rfl
  have e1 : decide ((peers : Int) < 1) = false := by rw [decide_eq_false_iff_not]; omega
  have e2 : decide ((8 : Int) < peers) = false := by rw [decide_eq_false_iff_not]; omega
  have e3 : decide ((peer : Int) < 0) = false := by rw [decide_eq_false_iff_not]; omega
  have e4 : decide ((peers : Int) ≤ peer) = false := by simpa using h4
  clear hi hz0 hz1 hz2
  go_enter Try.func14, Try.ntmps14
  go_wp2
  go_ret2
  refine ⟨w.heap.size + 1, w.heap.size, rfl, ⟨?_, ?_, World.ownsRow_nil _ _ _ _⟩, ?_, ?_, ((Kept.refl _ _).alloc _).alloc _⟩
  · have := heap_alloc_new (w.alloc (Obj.cells (u32s (List.replicate peers 0)) 73)) (Obj.cells #[Value.int .u8 peer, Value.int .u32 0, Value.slice (some ⟨w.heap.size, 0, none⟩) peers peers, Value.slice none 0 0, Value.slice none 0 0] 79)
    simpa using this
  · rw [Below.heap_alloc _ _ _ (by simp)]; exact heap_alloc_new w _
  · omega
  · omega

theorem PeerAt.cells {w : World} {bp me clock : Nat} {known : List Nat} {es : List El} {bk : Nat} {rv hv : Value} (h : PeerAt w bp me clock known es bk rv hv) :
    w.cell? ⟨bp, 0, none⟩ = some (.int .u8 me) ∧ w.cell? ⟨bp, 1, none⟩ = some (.int .u32 clock) ∧ w.cell? ⟨bp, 2, none⟩ = some (.slice (some ⟨bk, 0, none⟩) known.length known.length) ∧ w.cell? ⟨bp, 3, none⟩ = some rv ∧ w.cell? ⟨bp, 4, none⟩ = some hv := by
  refine ⟨?_, ?_, ?_, ?_, ?_⟩ <;> (rw [Lib.cell_of_heap h.block]; rfl)

set_option maxHeartbeats 400000 in
theorem known_any (bp me clock : Nat) (known : List Nat) (es : List El) (bk : Nat) (rv hv : Value) (w : World) (h : PeerAt w bp me clock known es bk rv hv) (hn : known.length ≤ 8) (hf : ∀ n ∈ known, n < 4294967296) :
    Calls Try.prog 18 #[.pointer (some ⟨bp, 0, none⟩)] w fun e' w' => e' = .returned (.slice (some ⟨w.heap.size, 0, none⟩) known.length known.length) ∧
      w'.heap[w.heap.size]? = some (.cells (i64s known) 3 (0, 0)) ∧ Kept (fun _ => False) w w' := by
  obtain ⟨i0, hi, hz0, hz1, hz2⟩ := info_parts info_int
  have hmk : ∀ w : World, (Instr.makeSlice 38 (.int .i64 known.length) (.int .i64 known.length)).run Try.prog w = .ok (.slice (some ⟨w.heap.size, 0, none⟩) known.length known.length) (w.alloc (.cells (i64s (List.replicate known.length 0)) 3)) := fun w => by
    rw [run_make w 38 3 i0 (.int .i64 0) Try.underlying38 hi hz0 .i64 .i64 known.length known.length (by omega) (by omega) (by rw [hz2]; omega) (by omega), hz1, ← made_zeros64]; rfl
  clear hi hz0 hz1 hz2
  obtain ⟨c0, c1, c2, c3, c4⟩ := h.cells
  have hb := lt_of_heap h.block
  have hbk := lt_of_heap h.knownB
  go_enter Try.func18, Try.ntmps18
  go_wp2
  go_loopw [19] (fun i wr => ∃ k : Nat, k ≤ known.length ∧ i = .int .i64 k ∧ wr.heap[w.heap.size]? = some (.cells (i64s (filled known k)) 3 (0, 0)) ∧ Kept (fun _ => False) w wr) (fun i _ => known.length - (intOf i).toNat)
  case atStart => exact ⟨0, Nat.zero_le _, rfl, by rw [filled_zero]; exact heap_alloc_new w _, (Kept.refl _ _).alloc _⟩
  case round =>
    obtain ⟨k, hk, rfl, hc, hkp⟩ := hrel
    by_cases hlt : k < known.length
    · obtain ⟨n, hek⟩ : ∃ n, known[k]? = some n := ⟨_, List.getElem?_eq_getElem hlt⟩
      have g0 : wr.cell? ⟨bk, k, none⟩ = some (.int .u32 n) := hkp.cell' (p := ⟨bk, k, none⟩) (by rw [Lib.cell_of_heap h.knownB, u32s_at, hek]; rfl) (fun h => h)
      have hn2 := hf n (List.mem_of_getElem? hek)
      have gsz : w.heap.size < wr.heap.size := lt_of_heap hc
      obtain ⟨v, g1⟩ : ∃ v, wr.cell? ⟨w.heap.size, k, none⟩ = some v := by
        rw [Lib.cell_of_heap hc]; exact ⟨_, Array.getElem?_eq_getElem (by simp [i64s, filled_length known k hk]; exact hlt)⟩
      have g2 : wr.frozen? ⟨w.heap.size, k, none⟩ = false := Lib.frozen_of_heap hc k
      have HC : Hid ((wr.setCell ⟨w.heap.size, k, none⟩ (.int .i64 n)).heap[w.heap.size]? = some (.cells (i64s (filled known (k + 1))) 3 (0, 0))) := by
        rw [i64s_filled known k n hek]; exact heap_set_same hc k _
      clear hek hc
      go_wp2
      go_roundw
      case rel => exact ⟨k + 1, by omega, by go_num, HC.out, hkp.setCell (fun h => absurd h (Nat.lt_irrefl _)) _⟩
      case measure => simp [intOf]; omega
    · have hke : k = known.length := by omega
      subst hke
      rw [filled_all] at hc
      go_wp2
      go_ret
      exact ⟨rfl, hc, hkp⟩

end Go.Proofs.Ytgmbigjdaliadaa
