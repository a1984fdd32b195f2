import Derived.Test.YtgmbigjdaliadaaV9a
set_option linter.unusedVariables false
set_option linter.unusedSimpArgs false
namespace Go.Proofs.Ytgmbigjdaliadaa
open Go.RowKit Go.Chorus

set_option maxHeartbeats 1000000 in
set_option maxRecDepth 100000 in
theorem deliver_none (bp me clock : Nat) (known : List Nat) (es : List El) (bk : Nat) (rv hv : Value) (w : World) (h : PeerAt w bp me clock known es bk rv hv) (hn : es.length ≤ 4294967295) (hkl : known.length ≤ 8)
    (p n c : Nat) (sv : Value) (tc tp : Nat) (ch : Int) (x : Nat) (hx : known[p]? = some x) (hx2 : x < 4294967295) (hcl : clock < 4294967296) (hc : c < 4294967296)
    (h12 : 0 ≤ findFrom c p es 0 ∨ placeOk tc tp es = false) :
    Calls Try.prog 49 #[.pointer (some ⟨bp, 0, none⟩), .agg #[.int .u8 1, .int .u8 p, .int .u32 n, .int .u32 c, sv, .int .u32 tc, .int .u8 tp, .int .i32 ch]] w fun e' w' =>
      e' = .returned (.tuple #[]) ∧ PeerAt w' bp me (max clock c) (known.set p (x + 1)) es bk rv hv ∧ Kept (Foot bp bk rv) w w' := by
  obtain ⟨c0, c1, c2, c3, c4⟩ := h.cells
  have hbw := lt_of_heap h.block
  have hkw := lt_of_heap h.knownB
  have hne := h.ne
  have f0 : ∀ j, w.frozen? ⟨bp, j, none⟩ = false := Lib.frozen_of_heap h.block
  have fk : ∀ j, w.frozen? ⟨bk, j, none⟩ = false := Lib.frozen_of_heap h.knownB
  have ck : w.cell? ⟨bk, p, none⟩ = some (.int .u32 (x : Int)) := by rw [Lib.cell_of_heap h.knownB, u32s_at, hx]; rfl
  have hpl : p < known.length := (List.getElem?_eq_some_iff.1 hx).1
  have hpl2 : (p : Int) < (known.length : Int) := by omega
  obtain ⟨W, hW⟩ : ∃ W, W = (((w.setCell ⟨bp, 1, none⟩ (.int .u32 (max (clock : Int) (c : Int)))).setCell ⟨bk, p, none⟩ (.int .u32 ((x : Int) + 1))).alloc (.cells #[.int .u8 1, .int .u8 p, .int .u32 n, .int .u32 c, sv, .int .u32 tc, .int .u8 tp, .int .i32 ch] 87)).drew.drew := ⟨_, rfl⟩
  obtain ⟨hP, hK⟩ := h.counted c p x (.cells #[.int .u8 1, .int .u8 p, .int .u32 n, .int .u32 c, sv, .int .u32 tc, .int .u8 tp, .int .i32 ch] 87)
  rw [← hW] at hP hK
  have hbox : W.heap[w.heap.size]? = some (.cells #[.int .u8 1, .int .u8 p, .int .u32 n, .int .u32 c, sv, .int .u32 tc, .int .u8 tp, .int .i32 ch] 87 (0, 0)) := by
    rw [hW]
    have := heap_alloc_new ((w.setCell ⟨bp, 1, none⟩ (.int .u32 (max (clock : Int) (c : Int)))).setCell ⟨bk, p, none⟩ (.int .u32 ((x : Int) + 1))) (.cells #[.int .u8 1, .int .u8 p, .int .u32 n, .int .u32 c, sv, .int .u32 tc, .int .u8 tp, .int .i32 ch] 87)
    have hs : ((w.setCell ⟨bp, 1, none⟩ (.int .u32 (max (clock : Int) (c : Int)))).setCell ⟨bk, p, none⟩ (.int .u32 ((x : Int) + 1))).heap.size = w.heap.size := by simp [World.setCell]
    rw [hs] at this
    exact this
  have HW : Hid (W = (((w.setCell ⟨bp, 1, none⟩ (.int .u32 (max (clock : Int) (c : Int)))).setCell ⟨bk, p, none⟩ (.int .u32 ((x : Int) + 1))).alloc (.cells #[.int .u8 1, .int .u8 p, .int .u32 n, .int .u32 c, sv, .int .u32 tc, .int .u8 tp, .int .i32 ch] 87)).drew.drew) := hW
  have HX : Hid (PeerAt W bp me (max clock c) (known.set p (x + 1)) es bk rv hv ∧ Kept (Foot bp bk rv) w W ∧ W.heap[w.heap.size]? = some (.cells #[.int .u8 1, .int .u8 p, .int .u32 n, .int .u32 c, sv, .int .u32 tc, .int .u8 tp, .int .i32 ch] 87 (0, 0))) := ⟨hP, hK, hbox⟩
  clear hx hW hP hK hbox
  go_enter Try.func49, Try.ntmps49
  go_wp2
  go_region
  go_wp2
  go_region
  go_wp2
  rw [← HW.out]
  clear HW c0 c1 c2 c3 c4 f0 fk ck
  obtain ⟨hP, hK, hbox⟩ := HX.out
  have x5 : W.cell? ⟨w.heap.size, 5, none⟩ = some (.int .u32 tc) := by rw [Lib.cell_of_heap hbox]; rfl
  have x6 : W.cell? ⟨w.heap.size, 6, none⟩ = some (.int .u8 tp) := by rw [Lib.cell_of_heap hbox]; rfl
  have x7 : W.cell? ⟨w.heap.size, 7, none⟩ = some (.int .i32 ch) := by rw [Lib.cell_of_heap hbox]; rfl
  have x0 : W.cell? ⟨w.heap.size, 0, none⟩ = some (.int .u8 1) := by rw [Lib.cell_of_heap hbox]; rfl
  have x1 : W.cell? ⟨w.heap.size, 1, none⟩ = some (.int .u8 p) := by rw [Lib.cell_of_heap hbox]; rfl
  have x2 : W.cell? ⟨w.heap.size, 2, none⟩ = some (.int .u32 n) := by rw [Lib.cell_of_heap hbox]; rfl
  have x3 : W.cell? ⟨w.heap.size, 3, none⟩ = some (.int .u32 c) := by rw [Lib.cell_of_heap hbox]; rfl
  have x4 : W.cell? ⟨w.heap.size, 4, none⟩ = some sv := by rw [Lib.cell_of_heap hbox]; rfl
  have hins : ∀ W' : World, Kept (fun _ => False) W W' → Calls Try.prog 66 #[.pointer (some ⟨bp, 3, none⟩), .agg #[.int .u32 c, .int .u8 p], .agg #[.int .u32 tc, .int .u8 tp], .int .i32 ch] W' fun e' w' => e' = .returned (.tuple #[]) ∧
      Hid (PeerAt w' bp me (max clock c) (known.set p (x + 1)) es bk rv hv ∧ Kept (Foot bp bk rv) w w') := fun W' hW' => by
    have hB := hW'.heap hP.block (fun h => h)
    have hN := hW'.heap hP.knownB (fun h => h)
    have hR := ownsRow_kept hP.row hW' (fun _ _ h => h)
    refine (rowInsert_no es c p tc tp ch bp 3 79 rv W' _ hB rfl hR (by omega) h12).mono ?_
    rintro e' w' ⟨rfl, y3⟩
    exact ⟨rfl, ⟨y3.heap hB (fun h => h), y3.heap hN (fun h => h), ownsRow_kept hR y3 (fun _ _ h => h)⟩, ((hK.trans hW' (fun _ _ h => h.elim)).trans y3 (fun _ _ h => h.elim))⟩
  clear hP hbox
  go_region_with (first
    | (go_at_call 67; refine (opName_any 1 p n c sv tc tp ch _).mono ?_; rintro e3 w3 ⟨rfl, hk3⟩; have z5 := hk3.cell' x5 (fun h => h); have z6 := hk3.cell' x6 (fun h => h); have z7 := hk3.cell' x7 (fun h => h))
    | (go_at_call 66; refine (hins _ ((Kept.refl _ W).drew.trans' hk3)).mono ?_; rintro e4 w4 ⟨rfl, hfin⟩))
  all_goals
    go_wp2
    go_end0
    exact ⟨rfl, hfin.out⟩

end Go.Proofs.Ytgmbigjdaliadaa
