import Derived.Shelf.Spec.SlicesInsertGrow
import Derived.Deep.RegionLaw
import Derived.Test.YtgfafbanahiigaaGreatWA
import Derived.Test.YtgfafbanahiigaaGreatApp2
set_option linter.unusedVariables false
set_option linter.unusedSimpArgs false
namespace Go.Proofs.YtgfafbanahiigaaGreat
open Go.RowKit Go.Chorus
theorem run_copy_rowN (P : Program) (w : World) (dT sT ty elem : TypeId) (sz g o dLen dCap : Nat) (a : Addr) (sLen sCap m : Nat) (cur : Array Value) (t : TypeId) (cs : List Value)
  (hu : P.underlying dT = some (.slice elem)) (hs : (P.info? elem).map (·.size) = some sz)
  (hg : w.heap[g]? = some (.cells cur t (0, 0))) (hm : Nat.min sLen dLen = m) (hn : cs.length = m * sz)
  (hsrc : ∀ j v, cs[j]? = some v → w.cell? (a.add j) = some v) (hfit : o + cs.length ≤ cur.size) (h1 : ∀ v ∈ cs, v.oneCell' = true) :
  (Builtin.copy_ #[dT, sT] ty #[.slice (some ⟨g, o, none⟩) dLen dCap, .slice (some a) sLen sCap]).run P w =
   .ok (goInt m) (w.setRow g (cur.toList.take o ++ cs ++ cur.toList.drop (o + cs.length)).toArray) := by
 have hl := run_loadCells_list (P := P) w a cs hsrc
 have hst := run_storeCells_at P g o t cs 0 cur w hg (by simpa using hfit) h1
 cases hq : P.info? elem with
 | none => simp [hq] at hs
 | some i =>
  have hi : i.size = sz := by simpa [hq] using hs
  simp [Builtin.copy_, run_underlying hu, Builtin.lenOf, Builtin.firstCells, sizeOf, typeInfo, hq, hi, hm, ← hn, hl, hst]
theorem elems_oneCell (es : List El) : ∀ v ∈ rowCells es, v.oneCell' = true := by
 induction es with
 | nil => intro v hv; cases hv
 | cons e r ih =>
  intro v hv
  simp only [rowCells, El.cells, List.mem_append, List.mem_cons, List.not_mem_nil, or_false] at hv
  rcases hv with (rfl | rfl | rfl | rfl) | hv
  ·rfl
  ·rfl
  ·rfl
  ·rfl
  ·exact ih v hv
theorem shift_cells {A B C V : List Value} (hV : V.length = 4) (hC : 4 ≤ C.length) :
  let L1 := (A ++ B ++ C).take (A.length + 4) ++ B ++ (A ++ B ++ C).drop (A.length + 4 + B.length)
  L1.take A.length ++ V ++ L1.drop (A.length + V.length) = A ++ V ++ B ++ C.drop 4 := by
 intro L1
 have e0 : ((A ++ B ++ C).take (A.length + 4)).length = A.length + 4 := by simp; omega
 have e1 : L1.take A.length = A := by
  show ((A ++ B ++ C).take (A.length + 4) ++ B ++ _).take A.length = A
  rw [List.append_assoc, List.take_append_of_le_length (by omega), List.take_take]
  rw [show min A.length (A.length + 4) = A.length by omega, List.append_assoc, List.take_left']
  rfl
 have e2 : L1.drop (A.length + V.length) = B ++ C.drop 4 := by
  show ((A ++ B ++ C).take (A.length + 4) ++ B ++ _).drop (A.length + V.length) = _
  rw [hV, List.append_assoc, List.drop_left' e0]
  congr 1
  rw [show A.length + 4 + B.length = (A ++ B).length + 4 by simp; omega, ← List.drop_drop, List.drop_left']
  rfl
 rw [e1, e2]; simp
theorem size_elem : (Tryz.prog.info? 102).map (·.size) = some 4 := by kernel_rfl
theorem info_elem : (Tryz.prog.info? 102).map (fun i => (i.zero, i.size, i.bytes)) = some (some (.agg #[.int .u32 0, .int .u8 0, .int .i32 0, .bool false]), 4, 16) := by kernel_rfl
set_option maxHeartbeats 1000000 in
set_option maxRecDepth 100000 in
theorem slInsert_shift (es : List El) (e : El) (i g cap vb vc : Nat) (cur : Array Value) (w : World) (hi : i < es.length) (hn : es.length ≤ 4294967296) (hroom : es.length + 1 ≤ cap) (hcap : cap ≤ maxLen)
  (hg : w.heap[g]? = some (.cells cur 102 (0, 0))) (hsz : cur.size = cap * 4) (htk : cur.toList.take (es.length * 4) = rowCells es)
  (hv : w.heap[vb]? = some (.cells e.cells.toArray 102 (0, 0))) (hne : vb ≠ g) :
  Calls Tryz.prog 99 #[.slice (some ⟨g, 0, none⟩) es.length cap, .int .i64 i, .slice (some ⟨vb, 0, none⟩) 1 vc] w fun e' w' =>
   e' = .returned (.slice (some ⟨g, 0, none⟩) (es.length + 1) cap) ∧
   w'.ownsRow 0 102 4 (.slice (some ⟨g, 0, none⟩) (es.length + 1) cap) (es.length + 1) (rowCells (es.take i ++ e :: es.drop i)) ∧ Kept (fun k => k = g) w w' := by
 have hcapM := hcap
 unfold maxLen at hcap
 have hz2 : ¬ ((i : Int) = (es.length : Int)) := by omega
 have hov : ∀ lb cb, (callFunc 109 #[.slice (some ⟨vb, 0, none⟩) 1 vc, .slice (some ⟨g, (i + 1) * 4, none⟩) lb cb]).run Tryz.prog w = .ok (.value (.bool false)) w := fun lb cb => by
  rw [run_callFunc_extern Tryz.func109 (by kernel_rfl) (by kernel_rfl) (by kernel_rfl) (e := Extern.SlicesOverlaps.overlaps #[64, 64] #[4]) (by kernel_rfl),
   Lib.run_overlaps_apart w 64 4 102 Tryz.underlying64 4 Tryz.sizeOf102 ⟨vb, 0, none⟩ ⟨g, (i + 1) * 4, none⟩ 1 vc lb cb hne 102 102 4 (cap * 4) (by simp [World.shape?, hv, El.cells]) (by simp [World.shape?, hg, hsz]) (by omega) (Lib.frozen_of_heap hv 0) (Lib.frozen_of_heap hv 4)]
  rfl
 have hcl : cur.toList.length = cap * 4 := by simpa using hsz
 have hcur : cur.toList = rowCells (es.take i) ++ rowCells (es.drop i) ++ cur.toList.drop (es.length * 4) := by
  rw [← rowCells_append, List.take_append_drop, ← htk, List.take_append_drop]
 have hAl : (rowCells (es.take i)).length = i * 4 := by rw [rowCells_length, List.length_take]; congr 1; omega
 have hBl : (rowCells (es.drop i)).length = (es.length - i) * 4 := by rw [rowCells_length, List.length_drop]
 have hCl : 4 ≤ (cur.toList.drop (es.length * 4)).length := by rw [List.length_drop, hcl]; omega
 have hsrc : ∀ W : World, (∀ x, W.cell? x = w.cell? x) → ∀ j v, (rowCells (es.drop i))[j]? = some v → W.cell? ((⟨g, i * 4, none⟩ : Addr).add j) = some v := fun W hW j v hj => by
  rw [Addr.add_lit, hW, Lib.cell_of_heap hg, ← Array.getElem?_toList, hcur]
  have hjl : j < (rowCells (es.drop i)).length := (List.getElem?_eq_some_iff.1 hj).1
  rw [List.getElem?_append_left (by simp [hAl]; omega), List.getElem?_append_right (by omega), hAl, show i * 4 + j - i * 4 = j by omega]
  exact hj
 have hcp1 : ∀ ty dc sc, (Builtin.copy_ #[64, 64] ty #[.slice (some ⟨g, (i + 1) * 4, none⟩) (es.length - i) dc, .slice (some ⟨g, i * 4, none⟩) (es.length + 1 - i) sc]).run Tryz.prog w.drew = .ok (goInt (es.length - i : Nat)) (w.drew.setRow g (cur.toList.take ((i + 1) * 4) ++ rowCells (es.drop i) ++ cur.toList.drop ((i + 1) * 4 + (rowCells (es.drop i)).length)).toArray) := fun ty dc sc =>
  run_copy_rowN Tryz.prog w.drew _ _ ty 102 4 g ((i + 1) * 4) (es.length - i) dc ⟨g, i * 4, none⟩ (es.length + 1 - i) sc (es.length - i) cur 102 (rowCells (es.drop i)) Tryz.underlying64 size_elem hg (by simp only [Nat.min_def]; split <;> omega) hBl (hsrc w.drew (fun _ => rfl)) (by rw [hBl, hsz]; omega) (elems_oneCell _)
 obtain ⟨L1, hL1⟩ : ∃ L1 : List Value, L1 = cur.toList.take ((i + 1) * 4) ++ rowCells (es.drop i) ++ cur.toList.drop ((i + 1) * 4 + (rowCells (es.drop i)).length) := ⟨_, rfl⟩
 rw [← hL1] at hcp1
 have hL1l : L1.length = cap * 4 := by rw [hL1]; simp [hBl, hsz]; omega
 have hvs : ∀ j v, e.cells[j]? = some v → (w.drew.setRow g L1.toArray).cell? ((⟨vb, 0, none⟩ : Addr).add j) = some v := fun j v hj => by
  rw [Addr.add_lit, Lib.cell_of_heap (cs := e.cells.toArray) (T := 102) (fr := (0, 0)) (by rw [heap_setRow_other hne]; exact hv)]
  simpa using hj
 have hcp2 : ∀ ty dc, (Builtin.copy_ #[64, 64] ty #[.slice (some ⟨g, i * 4, none⟩) (es.length + 1 - i) dc, .slice (some ⟨vb, 0, none⟩) 1 vc]).run Tryz.prog (w.drew.setRow g L1.toArray) = .ok (goInt 1) ((w.drew.setRow g L1.toArray).setRow g (L1.take (i * 4) ++ e.cells ++ L1.drop (i * 4 + e.cells.length)).toArray) := fun ty dc => by
  have := run_copy_rowN Tryz.prog (w.drew.setRow g L1.toArray) 64 64 ty 102 4 g (i * 4) (es.length + 1 - i) dc ⟨vb, 0, none⟩ 1 vc 1 L1.toArray 102 e.cells Tryz.underlying64 size_elem (heap_setRow (w := w.drew) hg) (by simp only [Nat.min_def]; split <;> omega) rfl hvs (by simp [El.cells, hL1l]; omega) (by
   intro v hv; simp only [El.cells, List.mem_cons, List.not_mem_nil, or_false] at hv; rcases hv with rfl | rfl | rfl | rfl <;> rfl)
  simpa using this
 have hfin : L1.take (i * 4) ++ e.cells ++ L1.drop (i * 4 + e.cells.length) = rowCells (es.take i) ++ e.cells ++ rowCells (es.drop i) ++ (cur.toList.drop (es.length * 4)).drop 4 := by
  have := shift_cells (A := rowCells (es.take i)) (B := rowCells (es.drop i)) (C := cur.toList.drop (es.length * 4)) (V := e.cells) rfl hCl
  simp only [← hcur, hAl] at this
  rw [hL1, show (i + 1) * 4 = i * 4 + 4 by omega]
  exact this
 have hrow : Hid (((w.drew.setRow g L1.toArray).setRow g (L1.take (i * 4) ++ e.cells ++ L1.drop (i * 4 + e.cells.length)).toArray).ownsRow 0 102 4 (.slice (some ⟨g, 0, none⟩) (es.length + 1) cap) (es.length + 1) (rowCells (es.take i ++ e :: es.drop i))) := by
  refine ⟨by rw [rowCells_length]; simp; omega, Or.inr ⟨g, cap, _, rfl, Nat.zero_le _, heap_setRow (heap_setRow (w := w.drew) hg), hroom, hcapM, ?_, ?_⟩⟩
  ·rw [hfin]; simp [hAl, hBl, El.cells, hsz]; omega
  ·rw [hfin, rowCells_append]
   show List.take _ (_ : List Value) = _ ++ (e.cells ++ rowCells (es.drop i))
   rw [← List.append_assoc]
   exact List.take_left' (by simp [hAl, hBl, El.cells]; omega)
 have hkp : Hid (Kept (fun k => k = g) w ((w.drew.setRow g L1.toArray).setRow g (L1.take (i * 4) ++ e.cells ++ L1.drop (i * 4 + e.cells.length)).toArray)) :=
  kept_setRow (S := fun k => k = g) (kept_setRow (S := fun k => k = g) ((Kept.refl _ w).drew) (fun _ => rfl) _) (fun _ => rfl) _
 have hw1 : IntKind.i64.wrap ((i : Int) + 1) = (i : Int) + 1 := by rw [IntKind.wrap_i64]; omega
 have htn : ((i : Int) + 1).toNat = i + 1 := by omega
 have hb1 : (0 : Int) ≤ (i : Int) + 1 := by omega
 have hin : i ≤ es.length := by omega
 have hin1 : i ≤ es.length + 1 := by omega
 have hin2 : (i : Int) ≤ (es.length : Int) + 1 := by omega
 have hb2 : ¬ (cap = i + 1) := by omega
 have hb4 : ¬ (cap = i) := by omega
 obtain ⟨L2, hL2⟩ : ∃ L2 : Array Value, L2 = (L1.take (i * 4) ++ e.cells ++ L1.drop (i * 4 + e.cells.length)).toArray := ⟨_, rfl⟩
 rw [← hL2] at hcp2 hrow hkp
 clear hfin hL1 hL2 hcur hsrc hvs htk
 go_enter Tryz.func99, Tryz.ntmps99
 go_wp2_with (simp only [hov])
 go_region_law (refine step_copy_runI rfl _ _ 64 64 rfl _ _ (by simp [Act.eval, Act.put]) (by simp [Act.eval, Act.put]) (hcp1 _ _ _) ?_)
 go_wp2_with (at_builtin; refine wpList_copy_runI _ rfl _ _ 64 64 rfl _ _ rfl rfl (hcp2 _ _) ?_)
 go_ret
 exact ⟨rfl, hrow.out, hkp.out⟩
theorem splice_at {A Z V : List Value} : (A ++ Z).take A.length ++ V ++ (A ++ Z).drop (A.length + V.length) = A ++ V ++ Z.drop V.length := by
 rw [List.take_left', ← List.drop_drop, List.drop_left'] <;> rfl
set_option maxHeartbeats 1000000 in
set_option maxRecDepth 100000 in
theorem slInsert_grow (es : List El) (e : El) (i g cap vb vc : Nat) (cur : Array Value) (w : World) (hi : i < es.length) (hn : es.length ≤ 4294967296) (hnc : es.length ≤ cap) (hroom : cap < es.length + 1) (hcap : cap ≤ maxLen)
  (hg : w.heap[g]? = some (.cells cur 102 (0, 0))) (hsz : cur.size = cap * 4) (htk : cur.toList.take (es.length * 4) = rowCells es)
  (hv : w.heap[vb]? = some (.cells e.cells.toArray 102 (0, 0))) :
  Calls Tryz.prog 99 #[.slice (some ⟨g, 0, none⟩) es.length cap, .int .i64 i, .slice (some ⟨vb, 0, none⟩) 1 vc] w fun e' w' =>
   ∃ G, e' = .returned (.slice (some ⟨w.heap.size, 0, none⟩) (es.length + 1) G) ∧
   w'.ownsRow 0 102 4 (.slice (some ⟨w.heap.size, 0, none⟩) (es.length + 1) G) (es.length + 1) (rowCells (es.take i ++ e :: es.drop i)) ∧ Kept (fun _ => False) w w' := by
 unfold maxLen at hcap
 obtain ⟨i0, hi0, hz0, hzs, hzb⟩ := info_parts info_elem
 have hz2 : ¬ ((i : Int) = (es.length : Int)) := by omega
 have hz3 : (cap : Int) < (es.length : Int) + 1 := by omega
 have hgw := lt_of_heap hg
 have hvw := lt_of_heap hv
 have hkk : (es.length : Int) + 1 - (i : Int) = ((es.length + 1 - i : Nat) : Int) := by omega
 have hik : i + (es.length + 1 - i) = es.length + 1 := by omega
 have hcl : cur.toList.length = cap * 4 := by simpa using hsz
 have hcur : cur.toList = rowCells (es.take i) ++ rowCells (es.drop i) ++ cur.toList.drop (es.length * 4) := by
  rw [← rowCells_append, List.take_append_drop, ← htk, List.take_append_drop]
 have hAl : (rowCells (es.take i)).length = i * 4 := by rw [rowCells_length, List.length_take]; congr 1; omega
 have hBl : (rowCells (es.drop i)).length = (es.length - i) * 4 := by rw [rowCells_length, List.length_drop]
 have hsrcA : ∀ W : World, (∀ x, W.cell? x = w.cell? x) → ∀ j v, (rowCells (es.take i))[j]? = some v → W.cell? ((⟨g, 0, none⟩ : Addr).add j) = some v := fun W hW j v hj => by
  rw [Addr.add_lit, hW, Lib.cell_of_heap hg, ← Array.getElem?_toList, hcur]
  have hjl : j < (rowCells (es.take i)).length := (List.getElem?_eq_some_iff.1 hj).1
  rw [List.getElem?_append_left (by simp; omega), List.getElem?_append_left (by omega), Nat.zero_add]
  exact hj
 have hsrcB : ∀ W : World, W.heap[g]? = w.heap[g]? → ∀ j v, (rowCells (es.drop i))[j]? = some v → W.cell? ((⟨g, i * 4, none⟩ : Addr).add j) = some v := fun W hW j v hj => by
  rw [Addr.add_lit, World.cell?_of_block (w := w) hW, Lib.cell_of_heap hg, ← Array.getElem?_toList, hcur]
  have hjl : j < (rowCells (es.drop i)).length := (List.getElem?_eq_some_iff.1 hj).1
  rw [List.getElem?_append_left (by simp [hAl]; omega), List.getElem?_append_right (by omega), hAl, show i * 4 + j - i * 4 = j by omega]
  exact hj
 have hold : (Builtin.firstCells i0.size i (.slice (some ⟨g, 0, none⟩) i cap)).run Tryz.prog w.drew = .ok (rowCells (es.take i)).toArray w.drew := by
  rw [hzs]
  exact run_firstCells_some w.drew 4 i ⟨g, 0, none⟩ i cap (rowCells (es.take i)) hAl (hsrcA w.drew (fun _ => rfl))
 obtain ⟨G, hG⟩ : ∃ G, G = grownCap w (es.length + 1) cap 102 := ⟨_, rfl⟩
 obtain ⟨Z, hZ⟩ : ∃ Z : List Value, Z = (Builtin.zeroCells (Value.agg #[.int .u32 0, .int .u8 0, .int .i32 0, .bool false]).cells (es.length + 1 - i) ++ Builtin.zeroCells (Value.agg #[.int .u32 0, .int .u8 0, .int .i32 0, .bool false]).cells (G - (es.length + 1))).toList := ⟨_, rfl⟩
 have hGn : es.length + 1 ≤ G := by rw [hG]; exact grownCap_ge w _ _ _
 have hG63 : G ≤ maxLen := by rw [hG]; exact grownCap_le_maxLen w (es.length + 1) cap 102 (by unfold maxLen; omega)
 have hZl : Z.length = (G - i) * 4 := by
  rw [hZ]; simp [Builtin.zeroCells, Value.cells]; omega
 have hrz : ∀ ty, (Builtin.append_ #[64, 3] ty #[.slice (some ⟨g, 0, none⟩) i cap, .int .i64 ((es.length : Int) + 1 - (i : Int))]).run Tryz.prog w =
   .ok (.slice (some ⟨w.heap.size, 0, none⟩) (es.length + 1) G) (w.drew.alloc (.cells (rowCells (es.take i) ++ Z).toArray 102)) := fun ty => by
  have h := Lib.run_append_grow_zeros w 64 3 ty 102 i0 _ .i64 .i64 Tryz.underlying64 Tryz.underlying3 hi0 hz0 (some ⟨g, 0, none⟩) i cap (rowCells (es.take i)) hold (es.length + 1 - i) (by omega) (by omega) (by omega) (by omega) (by rw [hzb]; omega) (by rw [hzb, hik]; exact growslice_fits hroom (by omega))
  have hrow : (rowCells (es.take i)).toArray ++ Builtin.zeroCells (Value.agg #[.int .u32 0, .int .u8 0, .int .i32 0, .bool false]).cells (es.length + 1 - i) ++ Builtin.zeroCells (Value.agg #[.int .u32 0, .int .u8 0, .int .i32 0, .bool false]).cells (G - (es.length + 1)) = (rowCells (es.take i) ++ Z).toArray := by
   rw [hZ]; apply Array.ext'; simp [Array.toList_append, List.append_assoc]
  rw [hik, ← hG, hrow] at h
  rw [hkk]
  exact h
 obtain ⟨ROW, hROW⟩ : ∃ ROW : List Value, ROW = rowCells (es.take i) ++ Z := ⟨_, rfl⟩
 have hRl : ROW.length = G * 4 := by rw [hROW, List.length_append, hAl, hZl]; omega
 rw [← hROW] at hrz
 obtain ⟨L1, hL1⟩ : ∃ L1 : List Value, L1 = ROW.take (i * 4) ++ e.cells ++ ROW.drop (i * 4 + e.cells.length) := ⟨_, rfl⟩
 have hL1l : L1.length = G * 4 := by rw [hL1]; simp [El.cells, hRl]; omega
 obtain ⟨L2, hL2⟩ : ∃ L2 : List Value, L2 = L1.take ((i + 1) * 4) ++ rowCells (es.drop i) ++ L1.drop ((i + 1) * 4 + (rowCells (es.drop i)).length) := ⟨_, rfl⟩
 have hcpA : ∀ W : World, W.heap[w.heap.size]? = some (.cells ROW.toArray 102 (0, 0)) → W.heap[vb]? = w.heap[vb]? → ∀ ty dc, (Builtin.copy_ #[64, 64] ty #[.slice (some ⟨w.heap.size, i * 4, none⟩) (es.length + 1 - i) dc, .slice (some ⟨vb, 0, none⟩) 1 vc]).run Tryz.prog W = .ok (goInt 1) (W.setRow w.heap.size L1.toArray) := fun W hW hWv ty dc => by
  have := run_copy_rowN Tryz.prog W 64 64 ty 102 4 w.heap.size (i * 4) (es.length + 1 - i) dc ⟨vb, 0, none⟩ 1 vc 1 ROW.toArray 102 e.cells Tryz.underlying64 size_elem hW (by simp only [Nat.min_def]; split <;> omega) rfl
   (fun j v hj => by rw [Addr.add_lit, Lib.cell_of_heap (hWv.trans hv)]; simpa using hj) (by simp [El.cells, hRl]; omega) (by
   intro v hv; simp only [El.cells, List.mem_cons, List.not_mem_nil, or_false] at hv; rcases hv with rfl | rfl | rfl | rfl <;> rfl)
  rw [hL1]; exact this
 have hcpB : ∀ W : World, W.heap[w.heap.size]? = some (.cells L1.toArray 102 (0, 0)) → W.heap[g]? = w.heap[g]? → ∀ ty dc sc, (Builtin.copy_ #[64, 64] ty #[.slice (some ⟨w.heap.size, (i + 1) * 4, none⟩) (es.length - i) dc, .slice (some ⟨g, i * 4, none⟩) (es.length - i) sc]).run Tryz.prog W = .ok (goInt (es.length - i : Nat)) (W.setRow w.heap.size L2.toArray) := fun W hW hWg ty dc sc => by
  have := run_copy_rowN Tryz.prog W 64 64 ty 102 4 w.heap.size ((i + 1) * 4) (es.length - i) dc ⟨g, i * 4, none⟩ (es.length - i) sc (es.length - i) L1.toArray 102 (rowCells (es.drop i)) Tryz.underlying64 size_elem hW (by simp only [Nat.min_def]; split <;> omega) hBl
   (hsrcB W hWg) (by simp [hL1l, hBl]; omega) (elems_oneCell _)
  rw [hL2]; exact this
 have e1 : L1 = rowCells (es.take i) ++ e.cells ++ Z.drop 4 := by
  rw [hL1, hROW, ← hAl]; exact splice_at
 have e2 : L2 = (rowCells (es.take i) ++ e.cells) ++ rowCells (es.drop i) ++ (Z.drop 4).drop (rowCells (es.drop i)).length := by
  rw [hL2, e1, show (i + 1) * 4 = (rowCells (es.take i) ++ e.cells).length by simp [hAl, El.cells]; omega]; exact splice_at
 obtain ⟨W0, hW0⟩ : ∃ W0 : World, W0 = (w.alloc (.cells ROW.toArray 102)).drew := ⟨_, rfl⟩
 have hN0 : W0.heap[w.heap.size]? = some (.cells ROW.toArray 102 (0, 0)) := by rw [hW0]; exact heap_alloc_new w _
 have hO0 : ∀ k, k < w.heap.size → W0.heap[k]? = w.heap[k]? := fun k hk => by rw [hW0]; exact Below.heap_alloc _ _ _ hk
 have hcA := hcpA W0 hN0 (hO0 vb hvw)
 have hcB := hcpB (W0.setRow w.heap.size L1.toArray).drew (heap_setRow hN0) ((heap_setRow_other (w := W0) (by omega)).trans (hO0 g hgw))
 have hrow : Hid (((W0.setRow w.heap.size L1.toArray).drew.setRow w.heap.size L2.toArray).ownsRow 0 102 4 (.slice (some ⟨w.heap.size, 0, none⟩) (es.length + 1) G) (es.length + 1) (rowCells (es.take i ++ e :: es.drop i))) := by
  refine ⟨by rw [rowCells_length]; simp; omega, Or.inr ⟨w.heap.size, G, _, rfl, Nat.zero_le _, heap_setRow (w := (W0.setRow w.heap.size L1.toArray).drew) (heap_setRow hN0), hGn, hG63, ?_, ?_⟩⟩
  ·rw [e2]; simp [hAl, hBl, El.cells, hZl]; omega
  ·rw [e2, rowCells_append]
   show List.take _ (_ : List Value) = _ ++ (e.cells ++ rowCells (es.drop i))
   rw [← List.append_assoc]
   exact List.take_left' (by simp [hAl, hBl, El.cells]; omega)
 have hkp : Hid (Kept (fun _ => False) w ((W0.setRow w.heap.size L1.toArray).drew.setRow w.heap.size L2.toArray)) := by
  rw [hW0]
  exact kept_setRow (S := fun _ => False) (kept_setRow (S := fun _ => False) (((Kept.refl _ w).alloc _).drew) (fun h => absurd h (Nat.lt_irrefl _)) _).drew (fun h => absurd h (Nat.lt_irrefl _)) _
 subst hW0
 unfold maxLen at hG63
 have hw1 : IntKind.i64.wrap ((i : Int) + 1) = (i : Int) + 1 := by rw [IntKind.wrap_i64]; omega
 have htn : ((i : Int) + 1).toNat = i + 1 := by omega
 have hb1 : (0 : Int) ≤ (i : Int) + 1 := by omega
 have hin : i ≤ es.length := by omega
 have hin1 : i ≤ es.length + 1 := by omega
 have hin2 : (i : Int) ≤ (es.length : Int) := by omega
 have hGi : ¬ (G = i) := by omega
 have hGim : ¬ (G = i + 1) := by omega
 have hci : ¬ (cap = i) := by omega
 clear hkk hik hold hROW hG hRl hL1 hL2 e1 e2 hcur hsrcA hsrcB htk hcpA hcpB hN0 hO0 hZ hZl hz0 hzs hzb hi0
 go_enter Tryz.func99, Tryz.ntmps99
 go_wp2_with (first
  | (at_builtin; refine Lib.wpList_append_run _ rfl _ _ _ _ rfl _ _ rfl rfl _ _ (hrz _) ?_)
  | (at_builtin; refine wpList_copy_runI _ rfl _ _ 64 64 rfl _ _ rfl rfl (hcA _ _) ?_))
 go_region_law (refine step_copy_runI rfl _ _ 64 64 rfl _ _ (by simp [Act.eval, Act.put]) (by simp [Act.eval, Act.put]) (hcB _ _ _) ?_)
 go_wp2
 go_ret
 exact ⟨G, rfl, hrow.out, hkp.out⟩
theorem el_oneCell (e : El) : ∀ v ∈ e.cells, v.oneCell' = true := by
 intro v hv; simp only [El.cells, List.mem_cons, List.not_mem_nil, or_false] at hv; rcases hv with rfl | rfl | rfl | rfl <;> rfl
set_option maxHeartbeats 1000000 in
set_option maxRecDepth 100000 in
theorem slInsert_end (es : List El) (e : El) (rv : Value) (vb vc : Nat) (w : World) (hn : es.length ≤ 4294967296)
  (hown : w.ownsRow 0 102 4 rv es.length (rowCells es)) (hv : w.heap[vb]? = some (.cells e.cells.toArray 102 (0, 0))) :
  Calls Tryz.prog 99 #[rv, .int .i64 es.length, .slice (some ⟨vb, 0, none⟩) 1 vc] w fun e' w' =>
   ∃ rv', e' = .returned rv' ∧ w'.ownsRow 0 102 4 rv' (es.length + 1) (rowCells (es ++ [e])) ∧ Kept (fun k => rv.ownBlock = some k) w w' ∧ (∀ k, rv'.ownBlock = some k → rv.ownBlock = some k ∨ w.heap.size ≤ k) := by
 obtain ⟨i0, hi0, hz0, hzs, hzb⟩ := info_parts info_elem
 obtain ⟨ao, cap, rfl, hcap, hnc⟩ := own_slice hown
 unfold maxLen at hcap
 have hnews : ∀ j u, e.cells[j]? = some u → w.cell? ((⟨vb, 0, none⟩ : Addr).add j) = some u := fun j v hj => by
  rw [Addr.add_lit, Lib.cell_of_heap hv]; simpa using hj
 obtain ⟨v', w1, hr, hown', hkp, hnb⟩ := append_strong Tryz.prog w 64 64 102 i0 _ 4 16 Tryz.underlying64 hi0 hz0 hzs hzb rfl (by decide) _ es.length (rowCells es) hown (.slice (some ⟨vb, 0, none⟩) 1 vc) 1 e.cells (Src.ofSlice w Tryz.underlying64 ⟨vb, 0, none⟩ 1 vc e.cells rfl hnews (el_oneCell e)) (by decide) (by unfold maxLen; omega) (by omega)
 have X : Hid (w1.ownsRow 0 102 4 v' (es.length + 1) (rowCells (es ++ [e]))) := by rw [rowCells_append]; simp only [rowCells, List.append_nil]; exact hown'
 have Y : Hid (Kept (fun k => (Value.slice ao es.length cap).ownBlock = some k) w w1) := hkp
 have Z : Hid (∀ k, v'.ownBlock = some k → (Value.slice ao es.length cap).ownBlock = some k ∨ w.heap.size ≤ k) := hnb
 clear hown' hkp hnb hnews hi0 hz0 hzs hzb hown
 by_cases hc : cap = es.length
 ·subst hc
  go_enter Tryz.func99, Tryz.ntmps99
  go_wp2_with (at_builtin; refine Lib.wpList_append_run _ rfl _ _ _ _ rfl _ _ rfl rfl _ _ (hr _) ?_)
  go_ret
  exact ⟨_, rfl, X.out, Y.out, Z.out⟩
 ·go_enter Tryz.func99, Tryz.ntmps99
  go_wp2_with (at_builtin; refine Lib.wpList_append_run _ rfl _ _ _ _ rfl _ _ rfl rfl _ _ (hr _) ?_)
  go_ret
  exact ⟨_, rfl, X.out, Y.out, Z.out⟩
theorem slInsert_any (es : List El) (e : El) (i : Nat) (rv : Value) (vb vc : Nat) (w : World) (hi : i ≤ es.length) (hn : es.length ≤ 4294967296)
  (hown : w.ownsRow 0 102 4 rv es.length (rowCells es)) (hv : w.heap[vb]? = some (.cells e.cells.toArray 102 (0, 0))) (hne : rv.ownBlock ≠ some vb) :
  Calls Tryz.prog 99 #[rv, .int .i64 i, .slice (some ⟨vb, 0, none⟩) 1 vc] w fun e' w' =>
   ∃ g cap, e' = .returned (.slice (some ⟨g, 0, none⟩) (es.length + 1) cap) ∧ w'.ownsRow 0 102 4 (.slice (some ⟨g, 0, none⟩) (es.length + 1) cap) (es.length + 1) (rowCells (es.take i ++ e :: es.drop i)) ∧ Kept (fun k => rv.ownBlock = some k) w w' ∧ (rv.ownBlock = some g ∨ w.heap.size ≤ g) := by
 by_cases hlt : i < es.length
 ·rcases hown.2 with ⟨rfl, h0⟩ | ⟨g, cap, cur, rfl, _, hg, hnc, hm, hsz, htk⟩
  ·omega
  ·by_cases hroom : es.length + 1 ≤ cap
   ·refine (slInsert_shift es e i g cap vb vc cur w hlt hn hroom hm hg hsz htk hv (fun h => hne (by rw [h]; rfl))).mono ?_
    rintro e' w' ⟨rfl, h1, h2⟩
    exact ⟨_, _, rfl, h1, h2.mono (fun k _ hk => by subst hk; rfl), Or.inl rfl⟩
   ·refine (slInsert_grow es e i g cap vb vc cur w hlt hn hnc (by omega) hm hg hsz htk hv).mono ?_
    rintro e' w' ⟨G, rfl, h1, h2⟩
    exact ⟨_, _, rfl, h1, h2.mono (fun k _ hk => hk.elim), Or.inr (Nat.le_refl _)⟩
 ·have hie : i = es.length := by omega
  subst hie
  refine (slInsert_end es e rv vb vc w hn hown hv).mono ?_
  rintro e' w' ⟨rv', rfl, h1, h2, h3⟩
  rcases h1.2 with ⟨_, h0⟩ | ⟨g, cap, cur, rfl, _⟩
  ·omega
  ·exact ⟨g, cap, rfl, by simpa using h1, h2, h3 g rfl⟩
def BytesAt (w : World) (v : Value) (l : List UInt8) : Prop := w.ownsRow 0 5 1 v l.length (Lib.byteCells l)
set_option maxHeartbeats 1000000 in
set_option maxRecDepth 100000 in
theorem appendFour_any (v : Value) (l : List UInt8) (n : Nat) (w : World) (hn : n < 4294967296) (h : BytesAt w v l) (hl : l.length ≤ 4294967296) :
  Calls Tryz.prog 72 #[v, .int .u32 n] w fun e' w' =>
   ∃ v', e' = .returned v' ∧ BytesAt w' v' (l ++ four n) ∧ Kept (fun k => v.ownBlock = some k) w w' ∧ (∀ k, v'.ownBlock = some k → v.ownBlock = some k ∨ w.heap.size ≤ k) := by
 obtain ⟨i0, hi0, hz0, hzs, hzb⟩ := info_parts info_u8
 have hcells : Lib.byteCells (four n) = [.int .u8 ((n : Int) / 16777216), .int .u8 ((n : Int) / 65536 % 256), .int .u8 ((n : Int) / 256 % 256), .int .u8 ((n : Int) % 256)] := by
  rw [four_cells]
  have e1 : ((n / 16777216 % 256 : Nat) : Int) = (n : Int) / 16777216 := by omega
  have e2 : ((n / 65536 % 256 : Nat) : Int) = (n : Int) / 65536 % 256 := by omega
  have e3 : ((n / 256 % 256 : Nat) : Int) = (n : Int) / 256 % 256 := by omega
  have e4 : ((n % 256 : Nat) : Int) = (n : Int) % 256 := by omega
  rw [e1, e2, e3, e4]
 have hkA : Kept (fun _ => False) w (w.alloc (.cells #[.int .u8 ((n : Int) / 16777216), .int .u8 ((n : Int) / 65536 % 256), .int .u8 ((n : Int) / 256 % 256), .int .u8 ((n : Int) % 256)] 5)) := (Kept.refl _ w).alloc _
 have hnb : (w.alloc (.cells #[.int .u8 ((n : Int) / 16777216), .int .u8 ((n : Int) / 65536 % 256), .int .u8 ((n : Int) / 256 % 256), .int .u8 ((n : Int) % 256)] 5)).heap[w.heap.size]? = some (.cells #[.int .u8 ((n : Int) / 16777216), .int .u8 ((n : Int) / 65536 % 256), .int .u8 ((n : Int) / 256 % 256), .int .u8 ((n : Int) % 256)] 5 (0, 0)) := heap_alloc_new w _
 obtain ⟨v', w1, hr, hown', hkp, hblk⟩ := append_strong Tryz.prog _ 89 89 5 i0 _ 1 1 Tryz.underlying89 hi0 hz0 hzs hzb rfl (by decide) v l.length (Lib.byteCells l) (ownsRow_kept h hkA (fun _ _ h => h)) (.slice (some ⟨w.heap.size, 0, none⟩) 4 4) 4 (Lib.byteCells (four n))
  (Src.ofSlice _ Tryz.underlying89 ⟨w.heap.size, 0, none⟩ 4 4 _ rfl (fun j u hj => by rw [Addr.add_lit, Lib.cell_of_heap hnb, hcells] at *; simpa using hj) (bytes_oneCell _)) (by decide) (by unfold maxLen; omega) (by omega)
 have X : Hid (BytesAt w1 v' (l ++ four n)) := by
  show w1.ownsRow 0 5 1 v' (l ++ four n).length (Lib.byteCells (l ++ four n))
  rw [Go.Chorus.byteCells_append, List.length_append]; exact hown'
 have Y : Hid (Kept (fun k => v.ownBlock = some k) w w1) := (hkA.mono (fun _ _ h => h.elim)).trans hkp (fun _ _ h => h)
 have Z : Hid (∀ k, v'.ownBlock = some k → v.ownBlock = some k ∨ w.heap.size ≤ k) := fun k hk => by
  rcases hblk k hk with h | h
  ·exact Or.inl h
  ·simp at h; exact Or.inr (by omega)
 clear hown' hkp hblk hcells hkA hnb hi0 hz0 hzs hzb h
 go_enter Tryz.func72, Tryz.ntmps72
 go_wp2_with (at_builtin; refine Lib.wpList_append_run _ rfl _ _ _ _ rfl _ _ rfl rfl _ _ (hr _) ?_)
 go_ret
 exact ⟨_, rfl, X.out, Y.out, Z.out⟩
set_option maxHeartbeats 1000000 in
theorem checkSum_any (a : Option Addr) (cp : Nat) (l : List UInt8) (w : World) (h : l ≠ [] → ∃ g, a = some ⟨g, 0, none⟩ ∧ ∀ i b, l[i]? = some b → w.cell? ⟨g, i, none⟩ = some (.int .u8 (b.toNat : Int))) (hl : l.length ≤ 4294967296) :
  Calls Tryz.prog 73 #[.slice a l.length cp] w fun e' w' => e' = .returned (.int .u32 (sumFrom l 0 : Nat)) ∧ w' = w := by
 go_enter Tryz.func73, Tryz.ntmps73
 go_wp2
 go_loop [3, 8] (fun s i => ∃ k : Nat, k ≤ l.length ∧ i = .int .i64 k ∧ s = .int .u32 (sumFrom (l.take k) 0 : Nat)) (fun _ i => l.length - (intOf i).toNat)
 case atStart => exact ⟨0, Nat.zero_le _, rfl, rfl⟩
 case round =>
  obtain ⟨k, hk, rfl, rfl⟩ := hrel
  by_cases hlt : k < l.length
  ·obtain ⟨b, hek⟩ : ∃ b, l[k]? = some b := ⟨_, List.getElem?_eq_getElem hlt⟩
   obtain ⟨g, rfl, hc⟩ := h (by intro h; rw [h] at hlt; simp at hlt)
   have c0 := hc k b hek
   have hs : Hid _ := sum_take l k b hek
   have hb := UInt8.toNat_lt b
   have hs0 := sumFrom_lt (l.take k) 0 (by decide)
   clear hek hc h
   go_wp2
   go_round
   case rel =>
    refine ⟨k + 1, by omega, by go_num, ?_⟩
    rw [hs.out]
    congr 1
    omega
   case measure => simp [intOf]; omega
  ·go_wp2
   go_ret
   have hke : k = l.length := by omega
   subst hke
   exact ⟨ret_int (by rw [List.take_length]), rfl⟩
theorem BytesAt.cells {w : World} {v : Value} {l : List UInt8} (h : BytesAt w v l) : ∃ a cp, v = .slice a l.length cp ∧ (l ≠ [] → ∃ g, a = some ⟨g, 0, none⟩ ∧ ∀ i b, l[i]? = some b → w.cell? ⟨g, i, none⟩ = some (.int .u8 (b.toNat : Int))) := by
 rcases h.2 with ⟨rfl, h0⟩ | ⟨g, cap, cur, rfl, _, hg, _, _, _, htk⟩
 ·exact ⟨none, 0, by rw [h0], fun hne => absurd (List.length_eq_zero_iff.1 h0) hne⟩
 ·refine ⟨_, cap, rfl, fun _ => ⟨g, rfl, fun i b hb => ?_⟩⟩
  have hil : i < l.length := (List.getElem?_eq_some_iff.1 hb).1
  have : (Lib.byteCells l)[i]? = some (.int .u8 (b.toNat : Int)) := by simp [Lib.byteCells, hb]
  rw [Lib.cell_of_heap hg, ← Array.getElem?_toList, ← this, ← htk, List.getElem?_take, if_pos (by omega)]
set_option maxHeartbeats 1000000 in
theorem opName_any (kd p n c : Nat) (sv : Value) (tc tp : Nat) (ch : Int) (w : World) :
  Calls Tryz.prog 78 #[.agg #[.int .u8 kd, .int .u8 p, .int .u32 n, .int .u32 c, sv, .int .u32 tc, .int .u8 tp, .int .i32 ch]] w fun e' w' =>
   e' = .returned (.agg #[.int .u32 c, .int .u8 p]) ∧ Kept (fun _ => False) w w' := by
 go_enter Tryz.func78, Tryz.ntmps78
 go_wp2
 refine bodyPost_ret (v := .agg #[.int .u32 c, .int .u8 p]) (by simp [results, Tryz.results78, go_sem]) rfl ⟨rfl, ?_⟩
 exact ((Kept.refl _ w).alloc _).alloc _
set_option maxHeartbeats 1000000 in
theorem kill_none (es : List El) (c p : Nat) (b o : Nat) (rv : Value) (w : World) (h0 : w.cell? ⟨b, o, none⟩ = some rv) (hv : RowV w rv es) (hn : es.length ≤ 4294967296) (h1 : ¬ 0 ≤ findFrom c p es 0) :
  Calls Tryz.prog 79 #[.pointer (some ⟨b, o, none⟩), .agg #[.int .u32 c, .int .u8 p]] w fun e' w' => e' = .returned (.tuple #[]) ∧ Kept (fun _ => False) w w' := by
 have hbw := World.block_lt_of_cell? w _ h0
 go_enter Tryz.func79, Tryz.ntmps79
 go_wp2_with fail
 refine (find_any c p es b o rv _ (((Kept.refl (fun _ => False) w).alloc _).cell' h0 (fun h => h)) (hv.kept ((Kept.refl (fun _ => False) w).alloc _) (fun _ _ h => h)) hn).mono ?_
 rintro e2 w2 ⟨rfl, hk2⟩
 have hf : decide (0 ≤ findFrom c p es 0) = false := by rw [decide_eq_false_iff_not]; omega
 go_wp2
 go_end0
 exact ⟨rfl, ((Kept.refl _ w).alloc _).trans' hk2⟩
set_option maxHeartbeats 1000000 in
theorem kill_some (es : List El) (c p : Nat) (b o i g cap : Nat) (cur : Array Value) (w : World) (h0 : w.cell? ⟨b, o, none⟩ = some (.slice (some ⟨g, 0, none⟩) es.length cap)) (hn : es.length ≤ 4294967296) (h1 : findFrom c p es 0 = i)
  (hg : w.heap[g]? = some (.cells cur 102 (0, 0))) (hi : i < es.length) (hsz : es.length * 4 ≤ cur.size) (hv : RowV w (.slice (some ⟨g, 0, none⟩) es.length cap) es) :
  Calls Tryz.prog 79 #[.pointer (some ⟨b, o, none⟩), .agg #[.int .u32 c, .int .u8 p]] w fun e' w' => e' = .returned (.tuple #[]) ∧ w'.heap[g]? = some (.cells (cur.setIfInBounds (i * 4 + 3) (.bool true)) 102 (0, 0)) ∧ Kept (fun k => k = g) w w' := by
 have hbw := World.block_lt_of_cell? w _ h0
 have hgw := lt_of_heap hg
 have H1 : Hid (findFrom c p es 0 = i) := h1
 clear h1
 go_enter Tryz.func79, Tryz.ntmps79
 go_wp2_with fail
 refine (find_any c p es b o _ _ (((Kept.refl (fun _ => False) w).alloc _).cell' h0 (fun h => h)) (hv.kept ((Kept.refl (fun _ => False) w).alloc _) (fun _ _ h => h)) hn).mono ?_
 rintro e2 w2 ⟨rfl, hk2⟩
 have hf : decide (0 ≤ findFrom c p es 0) = true := by rw [decide_eq_true_iff, H1.out]; omega
 rw [hf, H1.out]
 have hkw : Kept (fun _ => False) w w2 := ((Kept.refl _ w).alloc _).trans' hk2
 have hg2 := hkw.heap hg (fun h => h)
 have c0 := hkw.cell' h0 (fun h => h)
 have hi2 : (i : Int) < (es.length : Int) := by omega
 obtain ⟨v3, d3⟩ : ∃ v3, w2.cell? ⟨g, i * 4 + 3, none⟩ = some v3 := by
  rw [Lib.cell_of_heap hg2]; exact ⟨_, Array.getElem?_eq_getElem (by omega)⟩
 have f3 : w2.frozen? ⟨g, i * 4 + 3, none⟩ = false := Lib.frozen_of_heap hg2 _
 have HG : Hid ((w2.setCell ⟨g, i * 4 + 3, none⟩ (.bool true)).heap[g]? = some (.cells (cur.setIfInBounds (i * 4 + 3) (.bool true)) 102 (0, 0))) := heap_set_same hg2 _ _
 clear hg2 hf hk2 hg hv
 go_wp2
 go_end0
 exact ⟨rfl, HG.out, Kept.setCell (S := fun k => k = g) (hkw.mono (fun _ _ h => h.elim)) (p := ⟨g, i * 4 + 3, none⟩) (fun _ => rfl) _⟩
end Go.Proofs.YtgfafbanahiigaaGreat
