import Derived.Test.YtgfafbanahiigaaGreatWB
import Derived.Test.YtgfafbanahiigaaGreatW8
set_option linter.unusedVariables false
set_option linter.unusedSimpArgs false
namespace Go.Proofs.YtgfafbanahiigaaGreat
open Go.RowKit Go.Chorus
structure MOp where
 o : Ope
 g : Nat
 cap : Nat
def MOp.cells (m : MOp) : List Value := [.int .u8 m.o.kind, .int .u8 m.o.peer, .int .u32 m.o.num, .int .u32 m.o.clock, .slice (some ⟨m.g, 0, none⟩) m.o.seen.length m.cap, .int .u32 m.o.nclock, .int .u8 m.o.npeer, .int .i32 m.o.char]
def opsCells : List MOp → List Value
 | [] => []
 | e :: r => e.cells ++ opsCells r
theorem opsCells_length (es : List MOp) : (opsCells es).length = es.length * 8 := by
 induction es with
 | nil => rfl
 | cons e r ih => simp [opsCells, MOp.cells, ih]; omega
theorem opsCells_append (a b : List MOp) : opsCells (a ++ b) = opsCells a ++ opsCells b := by
 induction a with
 | nil => rfl
 | cons e r ih => simp [opsCells, ih, List.append_assoc]
theorem opsCells_at (es : List MOp) (i : Nat) (e : MOp) (h : es[i]? = some e) (j : Nat) (hj : j < 8) : (opsCells es)[i * 8 + j]? = e.cells[j]? := by
 induction es generalizing i with
 | nil => simp at h
 | cons x r ih =>
  cases i with
  | zero =>
   simp at h; subst h
   simp only [opsCells, Nat.zero_mul, Nat.zero_add]
   rw [List.getElem?_append_left (by simp [MOp.cells]; omega)]
  | succ i =>
   simp only [opsCells]
   rw [List.getElem?_append_right (by simp [MOp.cells]; omega)]
   have : (i + 1) * 8 + j - x.cells.length = i * 8 + j := by simp [MOp.cells]; omega
   rw [this]
   exact ih i (by simpa using h)
theorem op_oneCell (e : MOp) : ∀ v ∈ e.cells, v.oneCell' = true := by
 intro v hv; simp only [MOp.cells, List.mem_cons, List.not_mem_nil, or_false] at hv; rcases hv with rfl | rfl | rfl | rfl | rfl | rfl | rfl | rfl <;> rfl
theorem ops_oneCell (es : List MOp) : ∀ v ∈ opsCells es, v.oneCell' = true := by
 induction es with
 | nil => intro v hv; cases hv
 | cons e r ih =>
  intro v hv
  simp only [opsCells, List.mem_append] at hv
  rcases hv with hv | hv
  ·exact op_oneCell e v hv
  ·exact ih v hv
theorem shift_cells8 {A B C V : List Value} (hV : V.length = 8) (hC : 8 ≤ C.length) :
  let L1 := (A ++ B ++ C).take (A.length + 8) ++ B ++ (A ++ B ++ C).drop (A.length + 8 + B.length)
  L1.take A.length ++ V ++ L1.drop (A.length + V.length) = A ++ V ++ B ++ C.drop 8 := by
 intro L1
 have e0 : ((A ++ B ++ C).take (A.length + 8)).length = A.length + 8 := by simp; omega
 have e1 : L1.take A.length = A := by
  show ((A ++ B ++ C).take (A.length + 8) ++ B ++ _).take A.length = A
  rw [List.append_assoc, List.take_append_of_le_length (by omega), List.take_take]
  rw [show min A.length (A.length + 8) = A.length by omega, List.append_assoc, List.take_left']
  rfl
 have e2 : L1.drop (A.length + V.length) = B ++ C.drop 8 := by
  show ((A ++ B ++ C).take (A.length + 8) ++ B ++ _).drop (A.length + V.length) = _
  rw [hV, List.append_assoc, List.drop_left' e0]
  congr 1
  rw [show A.length + 8 + B.length = (A ++ B).length + 8 by simp; omega, ← List.drop_drop, List.drop_left']
  rfl
 rw [e1, e2]; simp
theorem size_op : (Tryz.prog.info? 115).map (·.size) = some 8 := by kernel_rfl
theorem info_op : (Tryz.prog.info? 115).map (fun i => (i.zero, i.size, i.bytes)) = some (some (.agg #[.int .u8 0, .int .u8 0, .int .u32 0, .int .u32 0, .slice none 0 0, .int .u32 0, .int .u8 0, .int .i32 0]), 8, 56) := by kernel_rfl
set_option maxHeartbeats 1000000 in
set_option maxRecDepth 100000 in
theorem opInsert_shift (es : List MOp) (e : MOp) (i g cap vb vc : Nat) (cur : Array Value) (w : World) (hi : i < es.length) (hn : es.length ≤ 4294967296) (hroom : es.length + 1 ≤ cap) (hcap : cap ≤ maxLen)
  (hg : w.heap[g]? = some (.cells cur 115 (0, 0))) (hsz : cur.size = cap * 8) (htk : cur.toList.take (es.length * 8) = opsCells es)
  (hv : w.heap[vb]? = some (.cells e.cells.toArray 115 (0, 0))) (hne : vb ≠ g) :
  Calls Tryz.prog 91 #[.slice (some ⟨g, 0, none⟩) es.length cap, .int .i64 i, .slice (some ⟨vb, 0, none⟩) 1 vc] w fun e' w' =>
   e' = .returned (.slice (some ⟨g, 0, none⟩) (es.length + 1) cap) ∧
   w'.ownsRow 0 115 8 (.slice (some ⟨g, 0, none⟩) (es.length + 1) cap) (es.length + 1) (opsCells (es.take i ++ e :: es.drop i)) ∧ Kept (fun k => k = g) w w' := by
 have hcapM := hcap
 unfold maxLen at hcap
 have hz2 : ¬ ((i : Int) = (es.length : Int)) := by omega
 have hov : ∀ lb cb, (callFunc 104 #[.slice (some ⟨vb, 0, none⟩) 1 vc, .slice (some ⟨g, (i + 1) * 8, none⟩) lb cb]).run Tryz.prog w = .ok (.value (.bool false)) w := fun lb cb => by
  rw [run_callFunc_extern Tryz.func104 (by kernel_rfl) (by kernel_rfl) (by kernel_rfl) (e := Extern.SlicesOverlaps.overlaps #[67, 67] #[4]) (by kernel_rfl),
   Lib.run_overlaps_apart w 67 4 115 Tryz.underlying67 8 Tryz.sizeOf115 ⟨vb, 0, none⟩ ⟨g, (i + 1) * 8, none⟩ 1 vc lb cb hne 115 115 8 (cap * 8) (by simp [World.shape?, hv, MOp.cells]) (by simp [World.shape?, hg, hsz]) (by omega) (Lib.frozen_of_heap hv 0) (Lib.frozen_of_heap hv 8)]
  rfl
 have hcl : cur.toList.length = cap * 8 := by simpa using hsz
 have hcur : cur.toList = opsCells (es.take i) ++ opsCells (es.drop i) ++ cur.toList.drop (es.length * 8) := by
  rw [← opsCells_append, List.take_append_drop, ← htk, List.take_append_drop]
 have hAl : (opsCells (es.take i)).length = i * 8 := by rw [opsCells_length, List.length_take]; congr 1; omega
 have hBl : (opsCells (es.drop i)).length = (es.length - i) * 8 := by rw [opsCells_length, List.length_drop]
 have hCl : 8 ≤ (cur.toList.drop (es.length * 8)).length := by rw [List.length_drop, hcl]; omega
 have hsrc : ∀ W : World, (∀ x, W.cell? x = w.cell? x) → ∀ j v, (opsCells (es.drop i))[j]? = some v → W.cell? ((⟨g, i * 8, none⟩ : Addr).add j) = some v := fun W hW j v hj => by
  rw [Addr.add_lit, hW, Lib.cell_of_heap hg, ← Array.getElem?_toList, hcur]
  have hjl : j < (opsCells (es.drop i)).length := (List.getElem?_eq_some_iff.1 hj).1
  rw [List.getElem?_append_left (by simp [hAl]; omega), List.getElem?_append_right (by omega), hAl, show i * 8 + j - i * 8 = j by omega]
  exact hj
 have hcp1 : ∀ ty dc sc, (Builtin.copy_ #[67, 67] ty #[.slice (some ⟨g, (i + 1) * 8, none⟩) (es.length - i) dc, .slice (some ⟨g, i * 8, none⟩) (es.length + 1 - i) sc]).run Tryz.prog w.drew = .ok (goInt (es.length - i : Nat)) (w.drew.setRow g (cur.toList.take ((i + 1) * 8) ++ opsCells (es.drop i) ++ cur.toList.drop ((i + 1) * 8 + (opsCells (es.drop i)).length)).toArray) := fun ty dc sc =>
  run_copy_rowN Tryz.prog w.drew _ _ ty 115 8 g ((i + 1) * 8) (es.length - i) dc ⟨g, i * 8, none⟩ (es.length + 1 - i) sc (es.length - i) cur 115 (opsCells (es.drop i)) Tryz.underlying67 size_op hg (by simp only [Nat.min_def]; split <;> omega) hBl (hsrc w.drew (fun _ => rfl)) (by rw [hBl, hsz]; omega) (ops_oneCell _)
 obtain ⟨L1, hL1⟩ : ∃ L1 : List Value, L1 = cur.toList.take ((i + 1) * 8) ++ opsCells (es.drop i) ++ cur.toList.drop ((i + 1) * 8 + (opsCells (es.drop i)).length) := ⟨_, rfl⟩
 rw [← hL1] at hcp1
 have hL1l : L1.length = cap * 8 := by rw [hL1]; simp [hBl, hsz]; omega
 have hvs : ∀ j v, e.cells[j]? = some v → (w.drew.setRow g L1.toArray).cell? ((⟨vb, 0, none⟩ : Addr).add j) = some v := fun j v hj => by
  rw [Addr.add_lit, Lib.cell_of_heap (cs := e.cells.toArray) (T := 115) (fr := (0, 0)) (by rw [heap_setRow_other hne]; exact hv)]
  simpa using hj
 have hcp2 : ∀ ty dc, (Builtin.copy_ #[67, 67] ty #[.slice (some ⟨g, i * 8, none⟩) (es.length + 1 - i) dc, .slice (some ⟨vb, 0, none⟩) 1 vc]).run Tryz.prog (w.drew.setRow g L1.toArray) = .ok (goInt 1) ((w.drew.setRow g L1.toArray).setRow g (L1.take (i * 8) ++ e.cells ++ L1.drop (i * 8 + e.cells.length)).toArray) := fun ty dc => by
  have := run_copy_rowN Tryz.prog (w.drew.setRow g L1.toArray) 67 67 ty 115 8 g (i * 8) (es.length + 1 - i) dc ⟨vb, 0, none⟩ 1 vc 1 L1.toArray 115 e.cells Tryz.underlying67 size_op (heap_setRow (w := w.drew) hg) (by simp only [Nat.min_def]; split <;> omega) rfl hvs (by simp [MOp.cells, hL1l]; omega) (op_oneCell e)
  simpa using this
 have hfin : L1.take (i * 8) ++ e.cells ++ L1.drop (i * 8 + e.cells.length) = opsCells (es.take i) ++ e.cells ++ opsCells (es.drop i) ++ (cur.toList.drop (es.length * 8)).drop 8 := by
  have := shift_cells8 (A := opsCells (es.take i)) (B := opsCells (es.drop i)) (C := cur.toList.drop (es.length * 8)) (V := e.cells) rfl hCl
  simp only [← hcur, hAl] at this
  rw [hL1, show (i + 1) * 8 = i * 8 + 8 by omega]
  exact this
 have hrow : Hid (((w.drew.setRow g L1.toArray).setRow g (L1.take (i * 8) ++ e.cells ++ L1.drop (i * 8 + e.cells.length)).toArray).ownsRow 0 115 8 (.slice (some ⟨g, 0, none⟩) (es.length + 1) cap) (es.length + 1) (opsCells (es.take i ++ e :: es.drop i))) := by
  refine ⟨by rw [opsCells_length]; simp; omega, Or.inr ⟨g, cap, _, rfl, Nat.zero_le _, heap_setRow (heap_setRow (w := w.drew) hg), hroom, hcapM, ?_, ?_⟩⟩
  ·rw [hfin]; simp [hAl, hBl, MOp.cells, hsz]; omega
  ·rw [hfin, opsCells_append]
   show List.take _ (_ : List Value) = _ ++ (e.cells ++ opsCells (es.drop i))
   rw [← List.append_assoc]
   exact List.take_left' (by simp [hAl, hBl, MOp.cells]; omega)
 have hkp : Hid (Kept (fun k => k = g) w ((w.drew.setRow g L1.toArray).setRow g (L1.take (i * 8) ++ e.cells ++ L1.drop (i * 8 + e.cells.length)).toArray)) :=
  kept_setRow (S := fun k => k = g) (kept_setRow (S := fun k => k = g) ((Kept.refl _ w).drew) (fun _ => rfl) _) (fun _ => rfl) _
 have hw1 : IntKind.i64.wrap ((i : Int) + 1) = (i : Int) + 1 := by rw [IntKind.wrap_i64]; omega
 have htn : ((i : Int) + 1).toNat = i + 1 := by omega
 have hb1 : (0 : Int) ≤ (i : Int) + 1 := by omega
 have hin : i ≤ es.length := by omega
 have hin1 : i ≤ es.length + 1 := by omega
 have hin2 : (i : Int) ≤ (es.length : Int) + 1 := by omega
 have hb2 : ¬ (cap = i + 1) := by omega
 have hb4 : ¬ (cap = i) := by omega
 obtain ⟨L2, hL2⟩ : ∃ L2 : Array Value, L2 = (L1.take (i * 8) ++ e.cells ++ L1.drop (i * 8 + e.cells.length)).toArray := ⟨_, rfl⟩
 rw [← hL2] at hcp2 hrow hkp
 clear hfin hL1 hL2 hcur hsrc hvs htk
 go_enter Tryz.func91, Tryz.ntmps91
 go_wp2_with (simp only [hov])
 go_region_law (refine step_copy_runI rfl _ _ 67 67 rfl _ _ (by simp [Act.eval, Act.put]) (by simp [Act.eval, Act.put]) (hcp1 _ _ _) ?_)
 go_wp2_with (at_builtin; refine wpList_copy_runI _ rfl _ _ 67 67 rfl _ _ rfl rfl (hcp2 _ _) ?_)
 go_ret
 exact ⟨rfl, hrow.out, hkp.out⟩
set_option maxHeartbeats 1000000 in
set_option maxRecDepth 100000 in
theorem opInsert_grow (es : List MOp) (e : MOp) (i g cap vb vc : Nat) (cur : Array Value) (w : World) (hi : i < es.length) (hn : es.length ≤ 4294967296) (hnc : es.length ≤ cap) (hroom : cap < es.length + 1) (hcap : cap ≤ maxLen)
  (hg : w.heap[g]? = some (.cells cur 115 (0, 0))) (hsz : cur.size = cap * 8) (htk : cur.toList.take (es.length * 8) = opsCells es)
  (hv : w.heap[vb]? = some (.cells e.cells.toArray 115 (0, 0))) :
  Calls Tryz.prog 91 #[.slice (some ⟨g, 0, none⟩) es.length cap, .int .i64 i, .slice (some ⟨vb, 0, none⟩) 1 vc] w fun e' w' =>
   ∃ G, e' = .returned (.slice (some ⟨w.heap.size, 0, none⟩) (es.length + 1) G) ∧
   w'.ownsRow 0 115 8 (.slice (some ⟨w.heap.size, 0, none⟩) (es.length + 1) G) (es.length + 1) (opsCells (es.take i ++ e :: es.drop i)) ∧ Kept (fun _ => False) w w' := by
 unfold maxLen at hcap
 obtain ⟨i0, hi0, hz0, hzs, hzb⟩ := info_parts info_op
 have hz2 : ¬ ((i : Int) = (es.length : Int)) := by omega
 have hz3 : (cap : Int) < (es.length : Int) + 1 := by omega
 have hgw := lt_of_heap hg
 have hvw := lt_of_heap hv
 have hkk : (es.length : Int) + 1 - (i : Int) = ((es.length + 1 - i : Nat) : Int) := by omega
 have hik : i + (es.length + 1 - i) = es.length + 1 := by omega
 have hcl : cur.toList.length = cap * 8 := by simpa using hsz
 have hcur : cur.toList = opsCells (es.take i) ++ opsCells (es.drop i) ++ cur.toList.drop (es.length * 8) := by
  rw [← opsCells_append, List.take_append_drop, ← htk, List.take_append_drop]
 have hAl : (opsCells (es.take i)).length = i * 8 := by rw [opsCells_length, List.length_take]; congr 1; omega
 have hBl : (opsCells (es.drop i)).length = (es.length - i) * 8 := by rw [opsCells_length, List.length_drop]
 have hsrcA : ∀ W : World, (∀ x, W.cell? x = w.cell? x) → ∀ j v, (opsCells (es.take i))[j]? = some v → W.cell? ((⟨g, 0, none⟩ : Addr).add j) = some v := fun W hW j v hj => by
  rw [Addr.add_lit, hW, Lib.cell_of_heap hg, ← Array.getElem?_toList, hcur]
  have hjl : j < (opsCells (es.take i)).length := (List.getElem?_eq_some_iff.1 hj).1
  rw [List.getElem?_append_left (by simp; omega), List.getElem?_append_left (by omega), Nat.zero_add]
  exact hj
 have hsrcB : ∀ W : World, W.heap[g]? = w.heap[g]? → ∀ j v, (opsCells (es.drop i))[j]? = some v → W.cell? ((⟨g, i * 8, none⟩ : Addr).add j) = some v := fun W hW j v hj => by
  rw [Addr.add_lit, World.cell?_of_block (w := w) hW, Lib.cell_of_heap hg, ← Array.getElem?_toList, hcur]
  have hjl : j < (opsCells (es.drop i)).length := (List.getElem?_eq_some_iff.1 hj).1
  rw [List.getElem?_append_left (by simp [hAl]; omega), List.getElem?_append_right (by omega), hAl, show i * 8 + j - i * 8 = j by omega]
  exact hj
 have hold : (Builtin.firstCells i0.size i (.slice (some ⟨g, 0, none⟩) i cap)).run Tryz.prog w.drew = .ok (opsCells (es.take i)).toArray w.drew := by
  rw [hzs]
  exact run_firstCells_some w.drew 8 i ⟨g, 0, none⟩ i cap (opsCells (es.take i)) hAl (hsrcA w.drew (fun _ => rfl))
 obtain ⟨G, hG⟩ : ∃ G, G = grownCap w (es.length + 1) cap 115 := ⟨_, rfl⟩
 obtain ⟨Z, hZ⟩ : ∃ Z : List Value, Z = (Builtin.zeroCells (Value.agg #[.int .u8 0, .int .u8 0, .int .u32 0, .int .u32 0, .slice none 0 0, .int .u32 0, .int .u8 0, .int .i32 0]).cells (es.length + 1 - i) ++ Builtin.zeroCells (Value.agg #[.int .u8 0, .int .u8 0, .int .u32 0, .int .u32 0, .slice none 0 0, .int .u32 0, .int .u8 0, .int .i32 0]).cells (G - (es.length + 1))).toList := ⟨_, rfl⟩
 have hGn : es.length + 1 ≤ G := by rw [hG]; exact grownCap_ge w _ _ _
 have hG63 : G ≤ maxLen := by rw [hG]; exact grownCap_le_maxLen w (es.length + 1) cap 115 (by unfold maxLen; omega)
 have hZl : Z.length = (G - i) * 8 := by
  rw [hZ]; simp [Builtin.zeroCells, Value.cells]; omega
 have hrz : ∀ ty, (Builtin.append_ #[67, 3] ty #[.slice (some ⟨g, 0, none⟩) i cap, .int .i64 ((es.length : Int) + 1 - (i : Int))]).run Tryz.prog w =
   .ok (.slice (some ⟨w.heap.size, 0, none⟩) (es.length + 1) G) (w.drew.alloc (.cells (opsCells (es.take i) ++ Z).toArray 115)) := fun ty => by
  have h := Lib.run_append_grow_zeros w 67 3 ty 115 i0 _ .i64 .i64 Tryz.underlying67 Tryz.underlying3 hi0 hz0 (some ⟨g, 0, none⟩) i cap (opsCells (es.take i)) hold (es.length + 1 - i) (by omega) (by omega) (by omega) (by omega) (by rw [hzb]; omega) (by rw [hzb, hik]; exact growslice_fits hroom (by omega))
  have hrow : (opsCells (es.take i)).toArray ++ Builtin.zeroCells (Value.agg #[.int .u8 0, .int .u8 0, .int .u32 0, .int .u32 0, .slice none 0 0, .int .u32 0, .int .u8 0, .int .i32 0]).cells (es.length + 1 - i) ++ Builtin.zeroCells (Value.agg #[.int .u8 0, .int .u8 0, .int .u32 0, .int .u32 0, .slice none 0 0, .int .u32 0, .int .u8 0, .int .i32 0]).cells (G - (es.length + 1)) = (opsCells (es.take i) ++ Z).toArray := by
   rw [hZ]; apply Array.ext'; simp [Array.toList_append, List.append_assoc]
  rw [hik, ← hG, hrow] at h
  rw [hkk]
  exact h
 obtain ⟨ROW, hROW⟩ : ∃ ROW : List Value, ROW = opsCells (es.take i) ++ Z := ⟨_, rfl⟩
 have hRl : ROW.length = G * 8 := by rw [hROW, List.length_append, hAl, hZl]; omega
 rw [← hROW] at hrz
 obtain ⟨L1, hL1⟩ : ∃ L1 : List Value, L1 = ROW.take (i * 8) ++ e.cells ++ ROW.drop (i * 8 + e.cells.length) := ⟨_, rfl⟩
 have hL1l : L1.length = G * 8 := by rw [hL1]; simp [MOp.cells, hRl]; omega
 obtain ⟨L2, hL2⟩ : ∃ L2 : List Value, L2 = L1.take ((i + 1) * 8) ++ opsCells (es.drop i) ++ L1.drop ((i + 1) * 8 + (opsCells (es.drop i)).length) := ⟨_, rfl⟩
 have hcpA : ∀ W : World, W.heap[w.heap.size]? = some (.cells ROW.toArray 115 (0, 0)) → W.heap[vb]? = w.heap[vb]? → ∀ ty dc, (Builtin.copy_ #[67, 67] ty #[.slice (some ⟨w.heap.size, i * 8, none⟩) (es.length + 1 - i) dc, .slice (some ⟨vb, 0, none⟩) 1 vc]).run Tryz.prog W = .ok (goInt 1) (W.setRow w.heap.size L1.toArray) := fun W hW hWv ty dc => by
  have := run_copy_rowN Tryz.prog W 67 67 ty 115 8 w.heap.size (i * 8) (es.length + 1 - i) dc ⟨vb, 0, none⟩ 1 vc 1 ROW.toArray 115 e.cells Tryz.underlying67 size_op hW (by simp only [Nat.min_def]; split <;> omega) rfl
   (fun j v hj => by rw [Addr.add_lit, Lib.cell_of_heap (hWv.trans hv)]; simpa using hj) (by simp [MOp.cells, hRl]; omega) (op_oneCell e)
  rw [hL1]; exact this
 have hcpB : ∀ W : World, W.heap[w.heap.size]? = some (.cells L1.toArray 115 (0, 0)) → W.heap[g]? = w.heap[g]? → ∀ ty dc sc, (Builtin.copy_ #[67, 67] ty #[.slice (some ⟨w.heap.size, (i + 1) * 8, none⟩) (es.length - i) dc, .slice (some ⟨g, i * 8, none⟩) (es.length - i) sc]).run Tryz.prog W = .ok (goInt (es.length - i : Nat)) (W.setRow w.heap.size L2.toArray) := fun W hW hWg ty dc sc => by
  have := run_copy_rowN Tryz.prog W 67 67 ty 115 8 w.heap.size ((i + 1) * 8) (es.length - i) dc ⟨g, i * 8, none⟩ (es.length - i) sc (es.length - i) L1.toArray 115 (opsCells (es.drop i)) Tryz.underlying67 size_op hW (by simp only [Nat.min_def]; split <;> omega) hBl
   (hsrcB W hWg) (by simp [hL1l, hBl]; omega) (ops_oneCell _)
  rw [hL2]; exact this
 have e1 : L1 = opsCells (es.take i) ++ e.cells ++ Z.drop 8 := by
  rw [hL1, hROW, ← hAl]; exact splice_at
 have e2 : L2 = (opsCells (es.take i) ++ e.cells) ++ opsCells (es.drop i) ++ (Z.drop 8).drop (opsCells (es.drop i)).length := by
  rw [hL2, e1, show (i + 1) * 8 = (opsCells (es.take i) ++ e.cells).length by simp [hAl, MOp.cells]; omega]; exact splice_at
 obtain ⟨W0, hW0⟩ : ∃ W0 : World, W0 = (w.alloc (.cells ROW.toArray 115)).drew := ⟨_, rfl⟩
 have hN0 : W0.heap[w.heap.size]? = some (.cells ROW.toArray 115 (0, 0)) := by rw [hW0]; exact heap_alloc_new w _
 have hO0 : ∀ k, k < w.heap.size → W0.heap[k]? = w.heap[k]? := fun k hk => by rw [hW0]; exact Below.heap_alloc _ _ _ hk
 have hcA := hcpA W0 hN0 (hO0 vb hvw)
 have hcB := hcpB (W0.setRow w.heap.size L1.toArray).drew (heap_setRow hN0) ((heap_setRow_other (w := W0) (by omega)).trans (hO0 g hgw))
 have hrow : Hid (((W0.setRow w.heap.size L1.toArray).drew.setRow w.heap.size L2.toArray).ownsRow 0 115 8 (.slice (some ⟨w.heap.size, 0, none⟩) (es.length + 1) G) (es.length + 1) (opsCells (es.take i ++ e :: es.drop i))) := by
  refine ⟨by rw [opsCells_length]; simp; omega, Or.inr ⟨w.heap.size, G, _, rfl, Nat.zero_le _, heap_setRow (w := (W0.setRow w.heap.size L1.toArray).drew) (heap_setRow hN0), hGn, hG63, ?_, ?_⟩⟩
  ·rw [e2]; simp [hAl, hBl, MOp.cells, hZl]; omega
  ·rw [e2, opsCells_append]
   show List.take _ (_ : List Value) = _ ++ (e.cells ++ opsCells (es.drop i))
   rw [← List.append_assoc]
   exact List.take_left' (by simp [hAl, hBl, MOp.cells]; omega)
 have hkp : Hid (Kept (fun _ => False) w ((W0.setRow w.heap.size L1.toArray).drew.setRow w.heap.size L2.toArray)) := by
  rw [hW0]
  exact kept_setRow (S := fun _ => False) (kept_setRow (S := fun _ => False) (((Kept.refl _ w).alloc _).drew) (fun h => absurd h (Nat.lt_irrefl _)) _).drew (fun h => absurd h (Nat.lt_irrefl _)) _
 subst hW0
 unfold maxLen at hG63
 have hw1 : IntKind.i64.wrap ((i : Int) + 1) = (i : Int) + 1 := by rw [IntKind.wrap_i64]; omega
 have htn : ((i : Int) + 1).toNat = i + 1 := by omega
 have hb1 : (0 : Int) ≤ (i : Int) + 1 := by omega
 have hin : i ≤ es.length := by omega
 have hin1 : i ≤ es.length + 1 := by omega
 have hin2 : (i : Int) ≤ (es.length : Int) := by omega
 have hGi : ¬ (G = i) := by omega
 have hGim : ¬ (G = i + 1) := by omega
 have hci : ¬ (cap = i) := by omega
 clear hkk hik hold hROW hG hRl hL1 hL2 e1 e2 hcur hsrcA hsrcB htk hcpA hcpB hN0 hO0 hZ hZl hz0 hzs hzb hi0
 go_enter Tryz.func91, Tryz.ntmps91
 go_wp2_with (first
  | (at_builtin; refine Lib.wpList_append_run _ rfl _ _ _ _ rfl _ _ rfl rfl _ _ (hrz _) ?_)
  | (at_builtin; refine wpList_copy_runI _ rfl _ _ 67 67 rfl _ _ rfl rfl (hcA _ _) ?_))
 go_region_law (refine step_copy_runI rfl _ _ 67 67 rfl _ _ (by simp [Act.eval, Act.put]) (by simp [Act.eval, Act.put]) (hcB _ _ _) ?_)
 go_wp2
 go_ret
 exact ⟨G, rfl, hrow.out, hkp.out⟩
set_option maxHeartbeats 1000000 in
set_option maxRecDepth 100000 in
theorem opInsert_end (es : List MOp) (e : MOp) (rv : Value) (vb vc : Nat) (w : World) (hn : es.length ≤ 4294967296)
  (hown : w.ownsRow 0 115 8 rv es.length (opsCells es)) (hv : w.heap[vb]? = some (.cells e.cells.toArray 115 (0, 0))) :
  Calls Tryz.prog 91 #[rv, .int .i64 es.length, .slice (some ⟨vb, 0, none⟩) 1 vc] w fun e' w' =>
   ∃ rv', e' = .returned rv' ∧ w'.ownsRow 0 115 8 rv' (es.length + 1) (opsCells (es ++ [e])) ∧ Kept (fun k => rv.ownBlock = some k) w w' ∧ (∀ k, rv'.ownBlock = some k → rv.ownBlock = some k ∨ w.heap.size ≤ k) := by
 obtain ⟨i0, hi0, hz0, hzs, hzb⟩ := info_parts info_op
 obtain ⟨ao, cap, rfl, hcap, hnc⟩ := own_slice hown
 unfold maxLen at hcap
 have hnews : ∀ j u, e.cells[j]? = some u → w.cell? ((⟨vb, 0, none⟩ : Addr).add j) = some u := fun j v hj => by
  rw [Addr.add_lit, Lib.cell_of_heap hv]; simpa using hj
 obtain ⟨v', w1, hr, hown', hkp, hnb⟩ := append_strong Tryz.prog w 67 67 115 i0 _ 8 56 Tryz.underlying67 hi0 hz0 hzs hzb rfl (by decide) _ es.length (opsCells es) hown (.slice (some ⟨vb, 0, none⟩) 1 vc) 1 e.cells (Src.ofSlice w Tryz.underlying67 ⟨vb, 0, none⟩ 1 vc e.cells rfl hnews (op_oneCell e)) (by decide) (by unfold maxLen; omega) (by omega)
 have X : Hid (w1.ownsRow 0 115 8 v' (es.length + 1) (opsCells (es ++ [e]))) := by rw [opsCells_append]; simp only [opsCells, List.append_nil]; exact hown'
 have Y : Hid (Kept (fun k => (Value.slice ao es.length cap).ownBlock = some k) w w1) := hkp
 have Z : Hid (∀ k, v'.ownBlock = some k → (Value.slice ao es.length cap).ownBlock = some k ∨ w.heap.size ≤ k) := hnb
 clear hown' hkp hnb hnews hi0 hz0 hzs hzb hown
 by_cases hc : cap = es.length
 ·subst hc
  go_enter Tryz.func91, Tryz.ntmps91
  go_wp2_with (at_builtin; refine Lib.wpList_append_run _ rfl _ _ _ _ rfl _ _ rfl rfl _ _ (hr _) ?_)
  go_ret
  exact ⟨_, rfl, X.out, Y.out, Z.out⟩
 ·go_enter Tryz.func91, Tryz.ntmps91
  go_wp2_with (at_builtin; refine Lib.wpList_append_run _ rfl _ _ _ _ rfl _ _ rfl rfl _ _ (hr _) ?_)
  go_ret
  exact ⟨_, rfl, X.out, Y.out, Z.out⟩
theorem opInsert_any (es : List MOp) (e : MOp) (i : Nat) (rv : Value) (vb vc : Nat) (w : World) (hi : i ≤ es.length) (hn : es.length ≤ 4294967296)
  (hown : w.ownsRow 0 115 8 rv es.length (opsCells es)) (hv : w.heap[vb]? = some (.cells e.cells.toArray 115 (0, 0))) (hne : rv.ownBlock ≠ some vb) :
  Calls Tryz.prog 91 #[rv, .int .i64 i, .slice (some ⟨vb, 0, none⟩) 1 vc] w fun e' w' =>
   ∃ g cap, e' = .returned (.slice (some ⟨g, 0, none⟩) (es.length + 1) cap) ∧ w'.ownsRow 0 115 8 (.slice (some ⟨g, 0, none⟩) (es.length + 1) cap) (es.length + 1) (opsCells (es.take i ++ e :: es.drop i)) ∧ Kept (fun k => rv.ownBlock = some k) w w' ∧ (rv.ownBlock = some g ∨ w.heap.size ≤ g) := by
 by_cases hlt : i < es.length
 ·rcases hown.2 with ⟨rfl, h0⟩ | ⟨g, cap, cur, rfl, _, hg, hnc, hm, hsz, htk⟩
  ·omega
  ·by_cases hroom : es.length + 1 ≤ cap
   ·refine (opInsert_shift es e i g cap vb vc cur w hlt hn hroom hm hg hsz htk hv (fun h => hne (by rw [h]; rfl))).mono ?_
    rintro e' w' ⟨rfl, h1, h2⟩
    exact ⟨_, _, rfl, h1, h2.mono (fun k _ hk => by subst hk; rfl), Or.inl rfl⟩
   ·refine (opInsert_grow es e i g cap vb vc cur w hlt hn hnc (by omega) hm hg hsz htk hv).mono ?_
    rintro e' w' ⟨G, rfl, h1, h2⟩
    exact ⟨_, _, rfl, h1, h2.mono (fun k _ hk => hk.elim), Or.inr (Nat.le_refl _)⟩
 ·have hie : i = es.length := by omega
  subst hie
  refine (opInsert_end es e rv vb vc w hn hown hv).mono ?_
  rintro e' w' ⟨rv', rfl, h1, h2, h3⟩
  rcases h1.2 with ⟨_, h0⟩ | ⟨g, cap, cur, rfl, _⟩
  ·omega
  ·exact ⟨g, cap, rfl, by simpa using h1, h2, h3 g rfl⟩
end Go.Proofs.YtgfafbanahiigaaGreat
