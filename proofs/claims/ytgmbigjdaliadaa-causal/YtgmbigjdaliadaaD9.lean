import Derived.Test.YtgmbigjdaliadaaW9
set_option linter.unusedVariables false
set_option linter.unusedSimpArgs false
namespace Go.Proofs.Ytgmbigjdaliadaa
open Go.RowKit Go.Chorus

theorem rowCells_set (es : List El) (i : Nat) (e e' : El) (h : es[i]? = some e) (he : e' = { e with dead := true }) : rowCells (es.set i e') = (rowCells es).set (i * 4 + 3) (.bool true) := by
  induction es generalizing i with
  | nil => simp at h
  | cons x r ih =>
    cases i with
    | zero =>
      simp at h; subst h; subst he
      simp [rowCells, El.cells]
    | succ i =>
      have := ih i (by simpa using h)
      simp only [List.set_cons_succ, rowCells, this]
      rw [List.set_append_right _ _ (by simp [El.cells]; omega)]
      congr 2
      simp [El.cells]; omega

/-- Kill, whatever the row holds. -/
theorem kill_any (es : List El) (c p : Nat) (b o : Nat) (T : TypeId) (rv : Value) (w : World) (cs : Array Value) (hb : w.heap[b]? = some (.cells cs T (0, 0))) (hT : T ≠ 105) (hrv : cs[o]? = some rv)
    (hown : w.ownsRow 0 105 4 rv es.length (rowCells es)) (hn : es.length ≤ 4294967296) :
    Calls Try.prog 68 #[.pointer (some ⟨b, o, none⟩), .agg #[.int .u32 c, .int .u8 p]] w fun e' w' => e' = .returned (.tuple #[]) ∧
      w'.ownsRow 0 105 4 rv es.length (rowCells (killEl es c p)) ∧ Kept (fun k => rv.ownBlock = some k) w w' := by
  have h0 : w.cell? ⟨b, o, none⟩ = some rv := by rw [Lib.cell_of_heap hb, hrv]
  have hv := rowV_of_own hown
  by_cases hf : 0 ≤ findFrom c p es 0
  · obtain ⟨i, hi⟩ : ∃ i : Nat, findFrom c p es 0 = i := ⟨(findFrom c p es 0).toNat, by omega⟩
    have hil : i < es.length := by
      rcases findFrom_range c p es 0 with h | ⟨_, h⟩ <;> omega
    rcases hown.2 with ⟨rfl, h0'⟩ | ⟨g, cap, cur, rfl, _, hg, hnc, hm, hsz, htk⟩
    · omega
    · refine (kill_some es c p b o i g cap cur w h0 hn hi hg hil (by rw [hsz]; exact Nat.mul_le_mul_right _ hnc) hv).mono ?_
      rintro e' w' ⟨rfl, h1, h2⟩
      refine ⟨rfl, ?_, h2.mono (fun k _ hk => by subst hk; rfl)⟩
      obtain ⟨e, hek⟩ : ∃ e, es[i]? = some e := ⟨_, List.getElem?_eq_getElem hil⟩
      have hke : killEl es c p = es.set i { e with dead := true } := by
        unfold killEl
        rw [if_pos hf, hi, Int.toNat_natCast]
        apply List.ext_getElem?
        intro j
        rw [List.getElem?_modify, List.getElem?_set]
        by_cases hj : i = j
        · subst hj
          have hee := (List.getElem?_eq_some_iff.1 hek).2
          simp [hek, hil, hee]
        · simp [hj]
      rw [hke, rowCells_set es i e _ hek rfl]
      refine ⟨by simp [hown.1], Or.inr ⟨g, cap, _, rfl, Nat.zero_le _, h1, hnc, hm, by simpa using hsz, ?_⟩⟩
      rw [Array.toList_setIfInBounds, ← htk, List.take_set]
  · refine (kill_none es c p b o rv w h0 hv hn hf).mono ?_
    rintro e' w' ⟨rfl, h1⟩
    refine ⟨rfl, ?_, h1.mono (fun _ _ h => h.elim)⟩
    unfold killEl
    rw [if_neg hf]
    exact ownsRow_kept hown h1 (fun _ _ h => h)

set_option maxHeartbeats 1000000 in
set_option maxRecDepth 100000 in
theorem deliver_del (bp me clock : Nat) (known : List Nat) (es : List El) (bk : Nat) (rv hv : Value) (w : World) (h : PeerAt w bp me clock known es bk rv hv) (hn : es.length ≤ 4294967295) (hkl : known.length ≤ 8)
    (p n c : Nat) (sv : Value) (tc tp : Nat) (ch : Int) (x : Nat) (hx : known[p]? = some x) (hx2 : x < 4294967295) (hcl : clock < 4294967296) (hc : c < 4294967296) :
    Calls Try.prog 49 #[.pointer (some ⟨bp, 0, none⟩), .agg #[.int .u8 2, .int .u8 p, .int .u32 n, .int .u32 c, sv, .int .u32 tc, .int .u8 tp, .int .i32 ch]] w fun e' w' =>
      e' = .returned (.tuple #[]) ∧ PeerAt w' bp me (max clock c) (known.set p (x + 1)) (killEl es tc tp) bk rv hv ∧ Kept (Foot bp bk rv) w w' := by
  obtain ⟨c0, c1, c2, c3, c4⟩ := h.cells
  have hbw := lt_of_heap h.block
  have hkw := lt_of_heap h.knownB
  have hne := h.ne
  have f0 : ∀ j, w.frozen? ⟨bp, j, none⟩ = false := Lib.frozen_of_heap h.block
  have fk : ∀ j, w.frozen? ⟨bk, j, none⟩ = false := Lib.frozen_of_heap h.knownB
  have ck : w.cell? ⟨bk, p, none⟩ = some (.int .u32 (x : Int)) := by rw [Lib.cell_of_heap h.knownB, u32s_at, hx]; rfl
  have hpl : p < known.length := (List.getElem?_eq_some_iff.1 hx).1
  have hpl2 : (p : Int) < (known.length : Int) := by omega
  obtain ⟨W, hW⟩ : ∃ W, W = (((w.setCell ⟨bp, 1, none⟩ (.int .u32 (max (clock : Int) (c : Int)))).setCell ⟨bk, p, none⟩ (.int .u32 ((x : Int) + 1))).alloc (.cells #[.int .u8 2, .int .u8 p, .int .u32 n, .int .u32 c, sv, .int .u32 tc, .int .u8 tp, .int .i32 ch] 87)).drew.drew := ⟨_, rfl⟩
  obtain ⟨hP, hK⟩ := h.counted c p x (.cells #[.int .u8 2, .int .u8 p, .int .u32 n, .int .u32 c, sv, .int .u32 tc, .int .u8 tp, .int .i32 ch] 87)
  rw [← hW] at hP hK
  have hbox : W.heap[w.heap.size]? = some (.cells #[.int .u8 2, .int .u8 p, .int .u32 n, .int .u32 c, sv, .int .u32 tc, .int .u8 tp, .int .i32 ch] 87 (0, 0)) := by
    rw [hW]
    have := heap_alloc_new ((w.setCell ⟨bp, 1, none⟩ (.int .u32 (max (clock : Int) (c : Int)))).setCell ⟨bk, p, none⟩ (.int .u32 ((x : Int) + 1))) (.cells #[.int .u8 2, .int .u8 p, .int .u32 n, .int .u32 c, sv, .int .u32 tc, .int .u8 tp, .int .i32 ch] 87)
    have hs : ((w.setCell ⟨bp, 1, none⟩ (.int .u32 (max (clock : Int) (c : Int)))).setCell ⟨bk, p, none⟩ (.int .u32 ((x : Int) + 1))).heap.size = w.heap.size := by simp [World.setCell]
    rw [hs] at this
    exact this
  have HW : Hid (W = (((w.setCell ⟨bp, 1, none⟩ (.int .u32 (max (clock : Int) (c : Int)))).setCell ⟨bk, p, none⟩ (.int .u32 ((x : Int) + 1))).alloc (.cells #[.int .u8 2, .int .u8 p, .int .u32 n, .int .u32 c, sv, .int .u32 tc, .int .u8 tp, .int .i32 ch] 87)).drew.drew) := hW
  have HX : Hid (PeerAt W bp me (max clock c) (known.set p (x + 1)) es bk rv hv ∧ Kept (Foot bp bk rv) w W ∧ W.heap[w.heap.size]? = some (.cells #[.int .u8 2, .int .u8 p, .int .u32 n, .int .u32 c, sv, .int .u32 tc, .int .u8 tp, .int .i32 ch] 87 (0, 0))) := ⟨hP, hK, hbox⟩
  clear hx hW hP hK hbox
  go_enter Try.func49, Try.ntmps49
  go_wp2
  go_region
  go_wp2
  go_region
  go_wp2
  rw [← HW.out]
  clear HW c0 c1 c2 c3 c4 f0 fk ck
  obtain ⟨hP, hK, hbox⟩ := HX.out
  have x5 : W.cell? ⟨w.heap.size, 5, none⟩ = some (.int .u32 tc) := by rw [Lib.cell_of_heap hbox]; rfl
  have x6 : W.cell? ⟨w.heap.size, 6, none⟩ = some (.int .u8 tp) := by rw [Lib.cell_of_heap hbox]; rfl
  have hkill : ∀ W' : World, Kept (fun _ => False) W W' → Calls Try.prog 68 #[.pointer (some ⟨bp, 3, none⟩), .agg #[.int .u32 tc, .int .u8 tp]] W' fun e' w' => e' = .returned (.tuple #[]) ∧
      Hid (PeerAt w' bp me (max clock c) (known.set p (x + 1)) (killEl es tc tp) bk rv hv ∧ Kept (Foot bp bk rv) w w') := fun W' hW' => by
    have hB := hW'.heap hP.block (fun h => h)
    have hN := hW'.heap hP.knownB (fun h => h)
    have hR := ownsRow_kept hP.row hW' (fun _ _ h => h)
    refine (kill_any es tc tp bp 3 79 rv W' _ hB (by decide) rfl hR (by omega)).mono ?_
    rintro e' w' ⟨rfl, y1, y3⟩
    refine ⟨rfl, ⟨y3.heap hB (fun e => own_ne hR hB (by decide) e), y3.heap hN (fun e => own_ne hR hN (by decide) e), ?_⟩, ?_⟩
    · rw [show (killEl es tc tp).length = es.length by unfold killEl; split <;> simp]; exact y1
    · exact (hK.trans hW' (fun _ _ h => h.elim)).trans y3 (fun i hi hs => Or.inr (Or.inr hs))
  clear hP hbox
  go_region_with (go_at_call 68; refine (hkill _ (Kept.refl _ W).drew).mono ?_; rintro e4 w4 ⟨rfl, hfin⟩)
  all_goals
    go_wp2
    go_end0
    exact ⟨rfl, hfin.out⟩

end Go.Proofs.Ytgmbigjdaliadaa
