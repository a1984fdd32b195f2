import Derived.Test.YtgfafbanahiigaaGreatW4
set_option linter.unusedVariables false
set_option linter.unusedSimpArgs false
namespace Go.Proofs.YtgfafbanahiigaaGreat
open Go.RowKit Go.Chorus

theorem el_oneCell (e : El) : ∀ v ∈ e.cells, v.oneCell' = true := by
  intro v hv; simp only [El.cells, List.mem_cons, List.not_mem_nil, or_false] at hv; rcases hv with rfl | rfl | rfl | rfl <;> rfl

set_option maxHeartbeats 1000000 in
set_option maxRecDepth 100000 in
theorem slInsert_end (es : List El) (e : El) (rv : Value) (vb vc : Nat) (w : World) (hn : es.length ≤ 4294967296)
    (hown : w.ownsRow 0 102 4 rv es.length (rowCells es)) (hv : w.heap[vb]? = some (.cells e.cells.toArray 102 (0, 0))) :
    Calls Tryz.prog 99 #[rv, .int .i64 es.length, .slice (some ⟨vb, 0, none⟩) 1 vc] w fun e' w' =>
      ∃ rv', e' = .returned rv' ∧ w'.ownsRow 0 102 4 rv' (es.length + 1) (rowCells (es ++ [e])) ∧ Kept (fun k => rv.ownBlock = some k) w w' ∧ (∀ k, rv'.ownBlock = some k → rv.ownBlock = some k ∨ w.heap.size ≤ k) := by
  obtain ⟨i0, hi0, hz0, hzs, hzb⟩ := info_parts info_elem
  obtain ⟨ao, cap, rfl, hcap, hnc⟩ := own_slice hown
  unfold maxLen at hcap
  have hnews : ∀ j u, e.cells[j]? = some u → w.cell? ((⟨vb, 0, none⟩ : Addr).add j) = some u := fun j v hj => by
    rw [Addr.add_lit, Lib.cell_of_heap hv]; simpa using hj
  obtain ⟨v', w1, hr, hown', hkp, hnb⟩ := append_strong Tryz.prog w 64 64 102 i0 _ 4 16 Tryz.underlying64 hi0 hz0 hzs hzb rfl (by decide) _ es.length (rowCells es) hown (.slice (some ⟨vb, 0, none⟩) 1 vc) 1 e.cells (Src.ofSlice w Tryz.underlying64 ⟨vb, 0, none⟩ 1 vc e.cells rfl hnews (el_oneCell e)) (by decide) (by unfold maxLen; omega) (by omega)
  have X : Hid (w1.ownsRow 0 102 4 v' (es.length + 1) (rowCells (es ++ [e]))) := by rw [rowCells_append]; simp only [rowCells, List.append_nil]; exact hown'
  have Y : Hid (Kept (fun k => (Value.slice ao es.length cap).ownBlock = some k) w w1) := hkp
  have Z : Hid (∀ k, v'.ownBlock = some k → (Value.slice ao es.length cap).ownBlock = some k ∨ w.heap.size ≤ k) := hnb
  clear hown' hkp hnb hnews hi0 hz0 hzs hzb hown
  by_cases hc : cap = es.length
  · subst hc
    go_enter Tryz.func99, Tryz.ntmps99
    go_wp2_with (at_builtin; refine Lib.wpList_append_run _ rfl _ _ _ _ rfl _ _ rfl rfl _ _ (hr _) ?_)
    go_ret
    exact ⟨_, rfl, X.out, Y.out, Z.out⟩
  · go_enter Tryz.func99, Tryz.ntmps99
    go_wp2_with (at_builtin; refine Lib.wpList_append_run _ rfl _ _ _ _ rfl _ _ rfl rfl _ _ (hr _) ?_)
    go_ret
    exact ⟨_, rfl, X.out, Y.out, Z.out⟩

/-- slices.Insert, whatever the room. -/
theorem slInsert_any (es : List El) (e : El) (i : Nat) (rv : Value) (vb vc : Nat) (w : World) (hi : i ≤ es.length) (hn : es.length ≤ 4294967296)
    (hown : w.ownsRow 0 102 4 rv es.length (rowCells es)) (hv : w.heap[vb]? = some (.cells e.cells.toArray 102 (0, 0))) (hne : rv.ownBlock ≠ some vb) :
    Calls Tryz.prog 99 #[rv, .int .i64 i, .slice (some ⟨vb, 0, none⟩) 1 vc] w fun e' w' =>
      ∃ g cap, e' = .returned (.slice (some ⟨g, 0, none⟩) (es.length + 1) cap) ∧ w'.ownsRow 0 102 4 (.slice (some ⟨g, 0, none⟩) (es.length + 1) cap) (es.length + 1) (rowCells (es.take i ++ e :: es.drop i)) ∧ Kept (fun k => rv.ownBlock = some k) w w' ∧ (rv.ownBlock = some g ∨ w.heap.size ≤ g) := by
  by_cases hlt : i < es.length
  · rcases hown.2 with ⟨rfl, h0⟩ | ⟨g, cap, cur, rfl, _, hg, hnc, hm, hsz, htk⟩
    · omega
    · by_cases hroom : es.length + 1 ≤ cap
      · refine (slInsert_shift es e i g cap vb vc cur w hlt hn hroom hm hg hsz htk hv (fun h => hne (by rw [h]; rfl))).mono ?_
        rintro e' w' ⟨rfl, h1, h2⟩
        exact ⟨_, _, rfl, h1, h2.mono (fun k _ hk => by subst hk; rfl), Or.inl rfl⟩
      · refine (slInsert_grow es e i g cap vb vc cur w hlt hn hnc (by omega) hm hg hsz htk hv).mono ?_
        rintro e' w' ⟨G, rfl, h1, h2⟩
        exact ⟨_, _, rfl, h1, h2.mono (fun k _ hk => hk.elim), Or.inr (Nat.le_refl _)⟩
  · have hie : i = es.length := by omega
    subst hie
    refine (slInsert_end es e rv vb vc w hn hown hv).mono ?_
    rintro e' w' ⟨rv', rfl, h1, h2, h3⟩
    rcases h1.2 with ⟨_, h0⟩ | ⟨g, cap, cur, rfl, _⟩
    · omega
    · exact ⟨g, cap, rfl, by simpa using h1, h2, h3 g rfl⟩

end Go.Proofs.YtgfafbanahiigaaGreat
