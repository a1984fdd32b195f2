import Derived.Test.YtgfafbanahiigaaGreatV5
import Derived.Lib.SliceRun
set_option linter.unusedVariables false
set_option linter.unusedSimpArgs false
namespace Go.Proofs.YtgfafbanahiigaaGreat
open Go.RowKit Go.Chorus
theorem step_append_runI {P : Program} {ops : Array Oper} {o : Oper} {a : Act} {w : World} {K : Act → World → Prop} {Q : Exit → Act → World → Prop} {E : Prop}
  (hg : o.guard = none) (d x : Operand) (dT sT : TypeId) (hop : o.op = Op.call { callee := Callee.builtin Builtin.append, args := #[d, x], argTypes := #[dT, sT] })
  (v u : Value) (hd : a.eval d = v) (hx : a.eval x = u) {v' : Value} {w' : World} (hr : (Builtin.append_ #[dT, sT] o.type #[v, u]).run P w = .ok v' w') (hK : K (a.put o.dst v') w') :
  if Region.wanted o (yielded ops a.tmps) = true then Oper.wp P o a w K Q else E := by
 have hw : Region.wanted o (yielded ops a.tmps) = true := by simp [Region.wanted, hg]
 rw [if_pos hw]
 exact Lib.wp_append_run w d x dT sT hop v u hd hx v' w' hr hK
theorem run_clear_rowN (P : Program) (w : World) (t ty elem : TypeId) (z : Value) (g o c : Nat) (cur : Array Value) (tt : TypeId)
  (hu : P.underlying t = some (.slice elem)) (hz : ∀ w : World, (zeroValue elem).run P w = .ok z w) (hg : w.heap[g]? = some (.cells cur tt (0, 0)))
  (hfit : o + (Builtin.zeroCells z.cells 1).toList.length ≤ cur.size) (h1 : ∀ v ∈ (Builtin.zeroCells z.cells 1).toList, v.oneCell' = true) :
  (Builtin.clear_ #[t] ty #[.slice (some ⟨g, o, none⟩) 1 c]).run P w =
   .ok (.tuple #[]) (w.setRow g (cur.toList.take o ++ (Builtin.zeroCells z.cells 1).toList ++ cur.toList.drop (o + (Builtin.zeroCells z.cells 1).toList.length)).toArray) := by
 have hst := run_storeCells_at P g o tt (Builtin.zeroCells z.cells 1).toList 0 cur w hg (by simpa using hfit) h1
 simp only [Nat.add_zero] at hst
 simp [Builtin.clear_, run_underlying hu, hz, hst]
set_option maxHeartbeats 1000000 in
set_option maxRecDepth 100000 in
theorem opDelete_any (ms : List MOp) (i g cap : Nat) (cur : Array Value) (w : World) (hi : i < ms.length) (hn : ms.length ≤ 4294967296) (hnc : ms.length ≤ cap) (hcap : cap ≤ maxLen)
  (hg : w.heap[g]? = some (.cells cur 115 (0, 0))) (hsz : cur.size = cap * 8) (htk : cur.toList.take (ms.length * 8) = opsCells ms) :
  Calls Tryz.prog 80 #[.slice (some ⟨g, 0, none⟩) ms.length cap, .int .i64 i, .int .i64 ((i : Int) + 1)] w fun e' w' =>
   e' = .returned (.slice (some ⟨g, 0, none⟩) (ms.length - 1) cap) ∧
   w'.ownsRow 0 115 8 (.slice (some ⟨g, 0, none⟩) (ms.length - 1) cap) (ms.length - 1) (opsCells (ms.eraseIdx i)) ∧ Kept (fun k => k = g) w w' := by
 have hcapM := hcap
 unfold maxLen at hcap
 obtain ⟨i0, hi0, hz0, hzs, hzb⟩ := info_parts info_op
 have hz2 : ¬ ((i : Int) = (i : Int) + 1) := by omega
 have hz3 : ((i : Int) == (i : Int) + 1) = false := by simp; omega
 have hi1 : (i : Int) + 1 ≤ (ms.length : Int) := by omega
 have hi2 : (i : Int) ≤ (ms.length : Int) := by omega
 have hi3 : (i : Int) + 1 ≤ (cap : Int) := by omega
 have hcl : cur.toList.length = cap * 8 := by simpa using hsz
 have hdl : (opsCells (ms.drop (i + 1))).length = (ms.length - (i + 1)) * 8 := by rw [opsCells_length, List.length_drop]
 have htl : (opsCells (ms.take i)).length = i * 8 := by rw [opsCells_length, List.length_take]; congr 1; omega
 obtain ⟨m, hm⟩ : ∃ m, ms[i]? = some m := ⟨_, List.getElem?_eq_getElem hi⟩
 have hparts : opsCells ms = opsCells (ms.take i) ++ m.cells ++ opsCells (ms.drop (i + 1)) := by
  have h1 : ms = ms.take i ++ m :: ms.drop (i + 1) := by
   have h2 := List.take_append_drop i ms
   rw [List.drop_eq_getElem_cons hi, (List.getElem?_eq_some_iff.1 hm).2] at h2
   exact h2.symm
  conv => lhs; rw [h1]
  rw [opsCells_append]; simp [opsCells]
 have hml : m.cells.length = 8 := rfl
 have hcur : cur.toList = opsCells (ms.take i) ++ m.cells ++ opsCells (ms.drop (i + 1)) ++ cur.toList.drop (ms.length * 8) := by
  rw [← hparts, ← htk, List.take_append_drop]
 have hsrc : ∀ (W : World) (a : Addr), W.heap = w.heap → (ms.length - (i + 1) = 0 ∨ a = ⟨g, (i + 1) * 8, none⟩) → ∀ j u, (opsCells (ms.drop (i + 1)))[j]? = some u → W.cell? (a.add j) = some u := fun W a hW ha j u hj => by
  have hjl : j < (opsCells (ms.drop (i + 1))).length := (List.getElem?_eq_some_iff.1 hj).1
  rcases ha with h0 | rfl
  ·rw [hdl, h0] at hjl; omega
  ·have hg' : W.heap[g]? = some (.cells cur 115 (0, 0)) := by rw [hW]; exact hg
   rw [Addr.add_lit, Lib.cell_of_heap hg', ← Array.getElem?_toList, hcur]
   rw [List.getElem?_append_left (by simp [htl, hml]; omega), List.getElem?_append_right (by simp [htl, hml]; omega)]
   simp only [List.length_append, htl, hml]
   rw [show (i + 1) * 8 + j - (i * 8 + 8) = j by omega]; exact hj
 obtain ⟨L1, hL1⟩ : ∃ L1 : List Value, L1 = cur.toList.take (i * 8) ++ opsCells (ms.drop (i + 1)) ++ cur.toList.drop (i * 8 + (opsCells (ms.drop (i + 1))).length) := ⟨_, rfl⟩
 have hL1l : L1.length = cap * 8 := by rw [hL1]; simp [hdl, hsz]; omega
 have hap : ∀ (W : World) (a : Addr) (c' : Nat) (ty : TypeId), W.heap = w.heap → (ms.length - (i + 1) = 0 ∨ a = ⟨g, (i + 1) * 8, none⟩) →
   (Builtin.append_ #[67, 67] ty #[.slice (some ⟨g, 0, none⟩) i cap, .slice (some a) (ms.length - (i + 1)) c']).run Tryz.prog W = .ok (.slice (some ⟨g, 0, none⟩) (ms.length - 1) cap) (W.setRow g L1.toArray) := fun W a c' ty hW ha => by
  have := run_append_room_row Tryz.prog W 67 67 ty 115 i0 Tryz.underlying67 hi0 g i cap cur (by rw [hW]; exact hg) (.slice (some a) (ms.length - (i + 1)) c') (ms.length - (i + 1)) (opsCells (ms.drop (i + 1)))
   (Src.ofSlice W Tryz.underlying67 a (ms.length - (i + 1)) c' _ (by rw [hzs, hdl]) (hsrc W a hW ha) (ops_oneCell _)) (by omega) (by rw [hzs, hdl, hsz]; omega)
  rw [hzs, show i + (ms.length - (i + 1)) = ms.length - 1 by omega] at this
  rw [hL1]; exact this
 have hzc : (Builtin.zeroCells (Value.agg #[.int .u8 0, .int .u8 0, .int .u32 0, .int .u32 0, .slice none 0 0, .int .u32 0, .int .u8 0, .int .i32 0]).cells 1).toList = [.int .u8 0, .int .u8 0, .int .u32 0, .int .u32 0, .slice none 0 0, .int .u32 0, .int .u8 0, .int .i32 0] := by kernel_rfl
 obtain ⟨L2, hL2⟩ : ∃ L2 : List Value, L2 = L1.take ((ms.length - 1) * 8) ++ [.int .u8 0, .int .u8 0, .int .u32 0, .int .u32 0, .slice none 0 0, .int .u32 0, .int .u8 0, .int .i32 0] ++ L1.drop ((ms.length - 1) * 8 + 8) := ⟨_, rfl⟩
 have hclr : ∀ (W : World) (c' : Nat) (ty : TypeId), W.heap[g]? = some (.cells L1.toArray 115 (0, 0)) → (Builtin.clear_ #[67] ty #[.slice (some ⟨g, (ms.length - 1) * 8, none⟩) 1 c']).run Tryz.prog W = .ok (.tuple #[]) (W.setRow g L2.toArray) := fun W c' ty hW => by
  have := run_clear_rowN Tryz.prog W 67 ty 115 _ g ((ms.length - 1) * 8) c' L1.toArray 115 Tryz.underlying67 Tryz.zeroValue115 hW (by rw [hzc]; simp [hL1l]; omega) (by
   rw [hzc]; intro v hv; simp only [List.mem_cons, List.not_mem_nil, or_false] at hv; rcases hv with rfl | rfl | rfl | rfl | rfl | rfl | rfl | rfl <;> rfl)
  rw [hzc] at this
  rw [hL2]; exact this
 have hA : L1.take ((ms.length - 1) * 8) = opsCells (ms.eraseIdx i) := by
  rw [List.eraseIdx_eq_take_drop_succ, opsCells_append, hL1]
  have h1 : cur.toList.take (i * 8) = opsCells (ms.take i) := by
   rw [hcur, List.append_assoc, List.append_assoc]
   exact List.take_left' htl
  rw [h1]
  exact List.take_left' (by rw [List.length_append, htl, hdl]; omega)
 have hel : (ms.eraseIdx i).length = ms.length - 1 := List.length_eraseIdx_of_lt hi
 have hrow : ∀ W : World, W.heap[g]? = some (.cells L1.toArray 115 (0, 0)) → (W.setRow g L2.toArray).ownsRow 0 115 8 (.slice (some ⟨g, 0, none⟩) (ms.length - 1) cap) (ms.length - 1) (opsCells (ms.eraseIdx i)) := fun W hW => by
  refine ⟨by rw [opsCells_length, hel], Or.inr ⟨g, cap, _, rfl, Nat.zero_le _, heap_setRow hW, by omega, hcapM, ?_, ?_⟩⟩
  ·rw [hL2]; simp [hL1l]; omega
  ·rw [hL2, ← hA, List.append_assoc]
   exact List.take_left' (by rw [List.length_take, hL1l]; omega)
 obtain ⟨W1, hW1⟩ : ∃ W1, W1 = w.drew.setRow g L1.toArray := ⟨_, rfl⟩
 have hg1 : W1.heap[g]? = some (.cells L1.toArray 115 (0, 0)) := by rw [hW1]; exact heap_setRow (w := w.drew) hg
 have HR : Hid (((W1.setRow g L2.toArray)).ownsRow 0 115 8 (.slice (some ⟨g, 0, none⟩) (ms.length - 1) cap) (ms.length - 1) (opsCells (ms.eraseIdx i))) := hrow W1 hg1
 have HK : Hid (Kept (fun k => k = g) w (W1.setRow g L2.toArray)) := by
  rw [hW1]
  exact kept_setRow (S := fun k => k = g) (kept_setRow (S := fun k => k = g) ((Kept.refl _ w).drew) (fun _ => rfl) _) (fun _ => rfl) _
 have hc1 := fun c' ty => hclr W1 c' ty hg1
 have hap1 := fun a c' ty h => hap w.drew a c' ty rfl h
 rw [← hW1] at hap1
 have hin1 : i + 1 ≤ ms.length := by omega
 have hic : i ≤ cap := by omega
 have hb1 : (0 : Int) ≤ (i : Int) + 1 := by omega
 have hic2 : i ≤ ms.length := by omega
 have htn : ((i : Int) + 1).toNat = i + 1 := by omega
 have hn1c : ms.length - 1 ≤ ms.length := by omega
 have hn2c : ¬ (cap = ms.length - 1) := by omega
 have hlen1 : ms.length - (ms.length - 1) = 1 := by omega
 have hlen2 : ((ms.length : Int) - 1).toNat = ms.length - 1 := by omega
 by_cases hce : cap = i + 1
 ·have hne : ms.length = i + 1 := by omega
  have hL1c : L1.toArray = cur := by
   rw [hL1, List.drop_eq_nil_of_le (by omega : ms.length ≤ i + 1)]
   simp [opsCells]
  have hgd : w.drew.heap[g]? = some (.cells L1.toArray 115 (0, 0)) := by rw [hL1c]; exact hg
  have hc2 := fun c' ty => hclr w.drew c' ty hgd
  have HR2 : Hid ((w.drew.setRow g L2.toArray).ownsRow 0 115 8 (.slice (some ⟨g, 0, none⟩) (ms.length - 1) cap) (ms.length - 1) (opsCells (ms.eraseIdx i))) := hrow w.drew hgd
  have HK2 : Hid (Kept (fun k => k = g) w (w.drew.setRow g L2.toArray)) := kept_setRow (S := fun k => k = g) ((Kept.refl _ w).drew) (fun _ => rfl) _
  have hl1 : ms.length - i = 1 := by omega
  have hl2 : ms.length - 1 = i := by omega
  have h0 : ms.length - (i + 1) = 0 := by omega
  rw [hl2] at hc2 HR2 ⊢
  clear hclr hap hrow hsrc hcur hparts hA hel hL1 hL2 htk hzc hi0 hz0 hzs hzb hdl htl hcl hW1 hm hc1 hap1 HR HK hL1c hgd hn1c hn2c hlen1 hlen2 hl2 hg1 hg
  subst hce
  have hle : (i : Int) ≤ (i : Int) + 1 := by omega
  clear hne
  go_enter Tryz.func80, Tryz.ntmps80
  go_wp2
  go_region
  go_wp2
  go_ret
  exact ⟨rfl, HR2.out, HK2.out⟩
 ·clear hclr hap hrow hsrc hcur hparts hA hel hL1 hL2 htk hzc hi0 hz0 hzs hzb hdl htl hcl hW1 hm
  go_enter Tryz.func80, Tryz.ntmps80
  go_wp2
  go_region_law (refine step_append_runI rfl (.tmp 22) (.tmp 25) 67 67 rfl (.slice (some ⟨g, 0, none⟩) i cap) (.slice (some ⟨g, (i + 1) * 8, none⟩) (ms.length - (i + 1)) (cap - (i + 1))) (by simp [Act.eval, Act.put]) (by simp [Act.eval, Act.put]) (hap1 ⟨g, (i + 1) * 8, none⟩ (cap - (i + 1)) _ (Or.inr rfl)) ?_)
  go_wp2
  go_ret
  exact ⟨rfl, HR.out, HK.out⟩
end Go.Proofs.YtgfafbanahiigaaGreat
