import Derived.Test.YtgfafbanahiigaaGreatV9
set_option linter.unusedVariables false
set_option linter.unusedSimpArgs false
namespace Go.Proofs.YtgfafbanahiigaaGreat
open Go.RowKit Go.Chorus

theorem made_nils (n : Nat) : madeCells #[Value.slice none 0 0] (n * 1) = (List.replicate n (Value.slice none 0 0)).toArray := by
  apply Array.ext
  · simp [madeCells]
  · intro i h1 h2
    simp [madeCells, Nat.mod_one]

set_option maxHeartbeats 400000 in
theorem hNew_any (peers : Nat) (w : World) (h2 : peers ≤ 8) :
    Calls Tryz.prog 25 #[.int .i64 peers] w fun e' w' => ∃ g, e' = .returned (.agg #[.slice (some ⟨g, 0, none⟩) peers peers]) ∧ w'.heap[g]? = some (.cells (List.replicate peers (Value.slice none 0 0)).toArray 67 (0, 0)) ∧ w.heap.size ≤ g ∧ Kept (fun _ => False) w w' := by
  obtain ⟨i0, hi, hz0, hz1, hz2⟩ := info_parts info_ops
  have hmk : ∀ w : World, (Instr.makeSlice 59 (.int .i64 peers) (.int .i64 peers)).run Tryz.prog w = .ok (.slice (some ⟨w.heap.size, 0, none⟩) peers peers) (w.alloc (.cells (List.replicate peers (Value.slice none 0 0)).toArray 67)) := fun w => by
    rw [run_make w 59 67 i0 (.slice none 0 0) Tryz.underlying59 hi hz0 .i64 .i64 peers peers (by omega) (by omega) (by rw [hz2]; omega) (by omega), hz1, ← made_nils]; rfl
  clear hi hz0 hz1 hz2
  go_enter Tryz.func25, Tryz.ntmps25
  go_wp2
  refine bodyPost_ret (v := .agg #[.slice (some ⟨w.heap.size + 1, 0, none⟩) peers peers]) (by simp [results, Tryz.results25, go_sem]) rfl ⟨w.heap.size + 1, rfl, ?_, by omega, ((Kept.refl _ _).alloc _).alloc _⟩
  have := heap_alloc_new (w.alloc (Obj.cells #[Value.slice (some ⟨w.heap.size + 1, 0, none⟩) peers peers] 61)) (Obj.cells (Array.replicate peers (Value.slice none 0 0)) 67)
  simpa using this

set_option maxHeartbeats 400000 in
theorem new_any (peer peers : Nat) (w : World) (h1 : 1 ≤ peers) (h2 : peers ≤ 8) (h4 : peer < peers) :
    Calls Tryz.prog 9 #[.int .i64 peer, .int .i64 peers] w fun e' w' => ∃ bp bk, e' = .returned (.tuple #[.pointer (some ⟨bp, 0, none⟩), .int .i64 0]) ∧
      PeerS w' bp ⟨peer, 0, List.replicate peers 0, [], [], List.replicate peers []⟩ bk (.slice none 0 0) (.slice none 0 0) ∧ w.heap.size ≤ bp ∧ (∀ k, bk.Foot k → w.heap.size ≤ k) ∧ (∀ k, ¬ bk.Seen k) ∧ Kept (fun _ => False) w w' := by
  have e1 : decide ((peers : Int) < 1) = false := by rw [decide_eq_false_iff_not]; omega
  have e2 : decide ((8 : Int) < peers) = false := by rw [decide_eq_false_iff_not]; omega
  have e3 : decide ((peer : Int) < 0) = false := by rw [decide_eq_false_iff_not]; omega
  have e4 : decide ((peers : Int) ≤ peer) = false := by simpa using h4
  go_enter Tryz.func9, Tryz.ntmps9
  go_wp2_with fail
  refine (hNew_any peers _ h2).mono ?_
  rintro e' w' ⟨g, rfl, hg, hgz, hk⟩
  have hgw := lt_of_heap hg
  go_wp2
  go_ret2
  have hal : ∀ x : Obj, Kept (fun _ => False) w' (w'.alloc x) := fun x => (Kept.refl _ _).alloc x
  refine ⟨w'.heap.size, ⟨g, List.replicate peers (.slice none 0 0), List.replicate peers []⟩, rfl, ⟨?_, ⟨?_, ?_, ?_, ?_, ?_, ?_⟩, World.ownsRow_nil _ _ _ _, ?_, ?_⟩, ?_, ?_, ?_, hk.alloc _⟩
  · have := heap_alloc_new w' (Obj.cells #[Value.int .u8 peer, Value.int .u32 0, Value.slice (some ⟨g, 0, none⟩) peers peers, Value.slice none 0 0, Value.slice none 0 0] 69)
    simpa using this
  · exact (hal _).heap hg (fun h => h)
  · simp
  · simp
  · intro i v l hv hl
    have hv := List.eq_of_mem_replicate (List.mem_of_getElem? hv)
    have hl := List.eq_of_mem_replicate (List.mem_of_getElem? hl)
    subst hv hl
    exact World.ownsRow_nil _ _ _ _
  · intro i j v u b hv hu hb
    have hv := List.eq_of_mem_replicate (List.mem_of_getElem? hv)
    subst hv
    simp [Value.ownBlock] at hb
  · intro l hl m hm
    have hl := List.eq_of_mem_replicate hl
    subst hl
    cases hm
  · intro v hv b hb
    have hv := List.eq_of_mem_replicate hv
    subst hv
    simp [Value.ownBlock] at hb
  · simp
  · exact hk.size
  · rintro k (rfl | ⟨v, hv, hb⟩)
    · exact hgz
    · have hv := List.eq_of_mem_replicate hv
      subst hv
      simp [Value.ownBlock] at hb
  · rintro k ⟨l, hl, m, hm, _⟩
    have hl := List.eq_of_mem_replicate hl
    subst hl
    cases hm

set_option maxHeartbeats 400000 in
theorem known_any (s : Pr) (bp : Nat) (bk : Log) (rv hv : Value) (w : World) (h : PeerS w bp s bk rv hv) (hn : s.known.length ≤ 8) (hf : ∀ n ∈ s.known, n < 4294967296) :
    Calls Tryz.prog 15 #[.pointer (some ⟨bp, 0, none⟩)] w fun e' w' => e' = .returned (.slice (some ⟨w.heap.size, 0, none⟩) s.known.length s.known.length) ∧
      w'.heap[w.heap.size]? = some (.cells (i64s s.known) 3 (0, 0)) ∧ Kept (fun _ => False) w w' := by
  obtain ⟨known, hkn⟩ : ∃ known, s.known = known := ⟨_, rfl⟩
  obtain ⟨c0, c1, c2, c3, c4⟩ := h.cells
  have hL := h.log
  rw [hkn] at hn hf c2 hL ⊢
  obtain ⟨i0, hi, hz0, hz1, hz2⟩ := info_parts info_int
  have hmk : ∀ w : World, (Instr.makeSlice 30 (.int .i64 known.length) (.int .i64 known.length)).run Tryz.prog w = .ok (.slice (some ⟨w.heap.size, 0, none⟩) known.length known.length) (w.alloc (.cells (i64s (List.replicate known.length 0)) 3)) := fun w => by
    rw [run_make w 30 3 i0 (.int .i64 0) Tryz.underlying30 hi hz0 .i64 .i64 known.length known.length (by omega) (by omega) (by rw [hz2]; omega) (by omega), hz1, ← made_zeros64]; rfl
  clear hi hz0 hz1 hz2
  have hb := lt_of_heap h.block
  have hW : ∀ x : Obj, Kept (fun _ => False) w (w.alloc x) := fun x => (Kept.refl _ _).alloc x
  go_enter Tryz.func15, Tryz.ntmps15
  go_wp2_with fail
  refine (hPeers_any bp 2 known.length known.length _ _ c2).mono ?_
  rintro e1 w1 ⟨rfl, rfl⟩
  go_wp2_with fail
  refine (hCounts_log bp 2 known.length bk known _ ((hW _).cell' c2 (fun h => h)) (hL.quiet (hW _)) hn hf).mono ?_
  rintro e2 w2 ⟨rfl, hc2, hk2⟩
  have hA := hk2.heap (heap_alloc_new w1 (.cells (i64s (List.replicate known.length 0)) 3)) (fun h => h)
  have hk12 : Kept (fun _ => False) w1 w2 := (hW _).trans' hk2
  have hsz : (w1.alloc (.cells (i64s (List.replicate known.length 0)) 3)).heap.size = w1.heap.size + 1 := by simp
  rw [hsz] at hc2 ⊢
  have hne : w1.heap.size + 1 ≠ w1.heap.size := by omega
  have hcz := lt_of_heap hc2
  clear h c0 c1 c2 c3 c4 hL hk2
  go_wp2
  go_loopw [18] (fun i wr => ∃ k : Nat, k ≤ known.length ∧ i = .int .i64 k ∧ wr.heap[w1.heap.size]? = some (.cells (i64s (filled known k)) 3 (0, 0)) ∧ wr.heap[w1.heap.size + 1]? = some (.cells (u32s known) 63 (0, 0)) ∧ Kept (fun _ => False) w1 wr) (fun i _ => known.length - (intOf i).toNat)
  case atStart => exact ⟨0, Nat.zero_le _, rfl, by rw [filled_zero]; exact hA, hc2, hk12⟩
  case round =>
    obtain ⟨k, hk, rfl, hc, hcu, hkp⟩ := hrel
    by_cases hlt : k < known.length
    · obtain ⟨n, hek⟩ : ∃ n, known[k]? = some n := ⟨_, List.getElem?_eq_getElem hlt⟩
      have g0 : wr.cell? ⟨w1.heap.size + 1, k, none⟩ = some (.int .u32 n) := by rw [Lib.cell_of_heap hcu, u32s_at, hek]; rfl
      have hn2 := hf n (List.mem_of_getElem? hek)
      have gsz : w1.heap.size < wr.heap.size := lt_of_heap hc
      have gsz2 : w1.heap.size + 1 < wr.heap.size := lt_of_heap hcu
      obtain ⟨v, g1⟩ : ∃ v, wr.cell? ⟨w1.heap.size, k, none⟩ = some v := by
        rw [Lib.cell_of_heap hc]; exact ⟨_, Array.getElem?_eq_getElem (by simp [i64s, filled_length known k hk]; exact hlt)⟩
      have g2 : wr.frozen? ⟨w1.heap.size, k, none⟩ = false := Lib.frozen_of_heap hc k
      have HC : Hid ((wr.setCell ⟨w1.heap.size, k, none⟩ (.int .i64 n)).heap[w1.heap.size]? = some (.cells (i64s (filled known (k + 1))) 3 (0, 0)) ∧ (wr.setCell ⟨w1.heap.size, k, none⟩ (.int .i64 n)).heap[w1.heap.size + 1]? = some (.cells (u32s known) 63 (0, 0))) := by
        refine ⟨by rw [i64s_filled known k n hek]; exact heap_set_same hc k _, ?_⟩
        rw [Below.heap_setCell _ _ _ _ hne]; exact hcu
      clear hek hc hcu
      go_wp2
      go_roundw
      case rel => exact ⟨k + 1, by omega, by go_num, HC.out.1, HC.out.2, hkp.setCell (fun h => absurd h (Nat.lt_irrefl _)) _⟩
      case measure => simp [intOf]; omega
    · have hke : k = known.length := by omega
      subst hke
      rw [filled_all] at hc
      go_wp2
      go_ret
      exact ⟨rfl, hc, hkp⟩

end Go.Proofs.YtgfafbanahiigaaGreat
