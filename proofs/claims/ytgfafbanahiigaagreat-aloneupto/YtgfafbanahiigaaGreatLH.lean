import Derived.Test.YtgfafbanahiigaaGreatRK
import Derived.Test.YtgfafbanahiigaaGreatLG
set_option linter.unusedVariables false
set_option linter.unusedSimpArgs false
namespace Go.Proofs.YtgfafbanahiigaaGreat
open Go.RowKit Go.Chorus
theorem info_ints : (Tryz.prog.info? 30).map (fun i => (i.zero, i.size, i.bytes)) = some (some (.slice none 0 0), 1, 24) := by kernel_rfl
theorem src_new (W : World) (b : Nat) (e : TypeId) (t : TypeId) (ht : Tryz.prog.underlying t = some (.slice e)) (l : List Value) (h : W.heap[b]? = some (.cells l.toArray e (0, 0))) (ho : ∀ v ∈ l, v.oneCell' = true) : Src Tryz.prog 1 t (.slice (some ⟨b, 0, none⟩) l.length l.length) l.length l W :=
 Src.ofSlice W ht _ _ _ _ (by simp) (fun j u hj => by rw [Addr.add_lit, Nat.zero_add, Lib.cell_of_heap h]; simpa using hj) ho
set_option maxHeartbeats 2000000 in
set_option maxRecDepth 100000 in
theorem ownNumbers_any {M B0 : Nat} {w : World} {bw : Nat} {S : WS} (h : WSt M B0 w bw S) (hB : B0 ≤ w.heap.size) (v : Value) (n : Nat) (xs : List Value) (hown : w.ownsRow 0 3 1 v n xs) (hn : n ≤ 65536) (hoff : ∀ b, v.ownBlock = some b → ¬ WOwn bw S.vs b ∧ (∀ p ∈ S.ps, ¬ (p.F b ∨ p.G b)) ∧ ¬ LB S b) (hvB : ∀ b, v.ownBlock = some b → B0 ≤ b) (h1 : S.ns.length = S.ms0.length) (hl : S.ns.length ≤ 1073741824) :
  Calls Tryz.prog 18 #[.pointer (some ⟨bw, 0, none⟩), v] w fun e' w' => e' = .returned (.tuple #[]) ∧ ∃ S', WSt M B0 w' bw S' ∧ S'.ps = S.ps ∧ S'.pks = S.pks ∧ S'.ts = S.ts ∧ S'.ms1 = S.ms1 ∧ S'.ns.length = S.ns.length + 4 ∧ S'.ms0.length = S.ms0.length + 4 ∧ Kept (fun b => B0 ≤ b) w w' := by
 obtain ⟨c0, c1, c2, c3, c4, c5⟩ := h.core.cells
 have bz := lt_of_heap h.core.block
 obtain ⟨a4, p4, e4, _, _⟩ := own_slice (h.core.rows 4 (by decide))
 have e4 : S.vs 4 = .slice a4 S.ms0.length p4 := e4
 obtain ⟨a2, p2, e2, _, _⟩ := own_slice (h.core.rows 2 (by decide))
 have e2 : S.vs 2 = .slice a2 S.ns.length p2 := e2
 rw [e4] at c4
 have hml : S.ms0.length ≤ 1073741824 := by omega
 have hmli : (S.ms0.length : Int) ≤ 1073741824 := by omega
 obtain ⟨a, cp, hve, hcm, hnc⟩ := own_slice hown
 subst hve
 obtain ⟨m, hm⟩ : ∃ m : Int, -1 - (S.ms0.length : Int) = m := ⟨_, rfl⟩
 have hm1 : -2147483648 ≤ m := by omega
 have hm2 : m < 0 := by omega
 have HW : Hid (WSt M B0 w bw S) := h
 have HL : Hid (S.ns.length = S.ms0.length) := h1
 have HE : Hid (S.vs 4 = .slice a4 S.ms0.length p4 ∧ S.vs 2 = .slice a2 S.ns.length p2) := ⟨e4, e2⟩
 have HOFF : Hid (∀ b, ((Value.slice a n cp).ownBlock = some b ∨ w.heap.size ≤ b) → ¬ WOwn bw S.vs b ∧ (∀ p ∈ S.ps, ¬ (p.F b ∨ p.G b)) ∧ ¬ LB S b) := fun b hb => by
  rcases hb with hb | hb
  ·exact hoff b hb
  ·exact h.fresh hb
 clear e4 e2 h h1 hoff
 go_enter Tryz.func18, Tryz.ntmps18
 go_wp2
 have HM : Hid (-1 - (S.ms0.length : Int) = m) := hm
 clear hm
 go_loopw [5] (fun i wr => ∃ k : Nat, k ≤ n ∧ i = .int .i64 k ∧ Hid (wr.ownsRow 0 3 1 (.slice a n cp) n (List.replicate k (.int .i64 m) ++ xs.drop k) ∧ Kept (fun b => (Value.slice a n cp).ownBlock = some b) w wr)) (fun i _ => n - (intOf i).toNat)
 case atStart => exact ⟨0, Nat.zero_le _, rfl, hown, Kept.refl _ _⟩
 case round =>
  obtain ⟨k, hk, rfl, HR⟩ := hrel
  obtain ⟨R1, R2⟩ := HR.out
  by_cases hlt : k < n
  ·have hlt2 : (k : Int) < (n : Int) := by omega
   obtain ⟨g, rfl⟩ : ∃ g, a = some ⟨g, 0, none⟩ := by
    rcases R1.2 with ⟨e1, h0⟩ | ⟨g, cap, cur, e1, _⟩
    ·omega
    ·injection e1 with x1; exact ⟨g, x1⟩
   have R3 := own_set R1 k hlt (.int .i64 m)
   have hx0 : ∃ u, wr.cell? ⟨g, k, none⟩ = some u := by
    obtain ⟨a', cp', e1, _, _, f⟩ := own_cells R1
    obtain ⟨g', x1, hg⟩ := f.resolve_left (by omega)
    injection e1 with y1 y2 y3
    rw [← y1] at x1
    injection x1 with x1
    injection x1 with x1
    subst x1
    have hlen := R1.1
    exact ⟨_, hg k _ (List.getElem?_eq_getElem (by omega))⟩
   obtain ⟨u, hu⟩ := hx0
   have gz : g < wr.heap.size := World.block_lt_of_cell? wr _ hu
   have gf : wr.frozen? ⟨g, k, none⟩ = false := by
    rcases R1.2 with ⟨e1, h0⟩ | ⟨g', cap, cur, e1, _, hg, _⟩
    ·omega
    ·injection e1 with x1
     injection x1 with x1
     injection x1 with x1
     subst x1
     exact Lib.frozen_of_heap hg k
   have HR2 : Hid ((wr.setCell ⟨g, k, none⟩ (.int .i64 m)).ownsRow 0 3 1 (.slice (some ⟨g, 0, none⟩) n cp) n (List.replicate (k + 1) (.int .i64 m) ++ xs.drop (k + 1)) ∧ Kept (fun b => (Value.slice (some ⟨g, 0, none⟩) n cp).ownBlock = some b) w (wr.setCell ⟨g, k, none⟩ (.int .i64 m))) := by
    refine ⟨?_, R2.setCell (p := ⟨g, k, none⟩) (fun _ => rfl) _⟩
    have e : (List.replicate k (Value.int .i64 m) ++ xs.drop k).set k (.int .i64 m) = List.replicate (k + 1) (.int .i64 m) ++ xs.drop (k + 1) := by
     have hxl := hown.1
     rw [List.set_append_right _ _ (by simp), List.length_replicate, Nat.sub_self, List.drop_eq_getElem_cons (by omega), List.set_cons_zero, List.replicate_succ', List.append_assoc]
     rfl
    rw [← e]; exact R3
   clear R1 R2 R3 HR
   go_wp2
   go_roundw
   case rel => exact ⟨k + 1, by omega, by go_num, HR2⟩
   case measure => simp [intOf]; omega
  ·have hlt2 : ¬ (k : Int) < (n : Int) := by omega
   obtain rfl : k = n := by omega
   have hxl := hown.1
   rw [List.drop_eq_nil_of_le (by omega), List.append_nil] at R1
   obtain ⟨i0, hi0, hz0, hzs, hzb⟩ := info_parts info_int
   obtain ⟨u, hu⟩ : ∃ u : Value, .int .i64 m = u := ⟨_, rfl⟩
   rw [hu] at R1
   have ho1 : ∀ v ∈ [u], v.oneCell' = true := by intro v hv; simp at hv; subst hv; rw [← hu]; rfl
   have ho2 : ∀ v ∈ [u, u], v.oneCell' = true := by intro v hv; simp at hv; subst hv; rw [← hu]; rfl
   have ho3 : ∀ v ∈ [u, u, u], v.oneCell' = true := by intro v hv; simp at hv; subst hv; rw [← hu]; rfl
   obtain ⟨W1, hW1⟩ : ∃ W, W = wr.alloc (.cells #[u] 3) := ⟨_, rfl⟩
   have kW1 : Kept (fun _ => False) wr W1 := by rw [hW1]; exact (Kept.refl _ _).alloc _
   obtain ⟨v1, w1, r1, A1, B1, C1, D1, E1⟩ := append_fill Tryz.prog W1 30 30 3 i0 _ u 8 Tryz.underlying30 hi0 hz0 hzs hzb rfl (.slice a k cp) k (ownsRow_kept R1 kW1 (fun _ _ h => h)) _ 1 (src_new W1 wr.heap.size 3 30 Tryz.underlying30 [u] (by rw [hW1]; exact heap_alloc_new wr _) ho1) (by decide) (by unfold maxLen; omega) (by omega)
   obtain ⟨W2, hW2⟩ : ∃ W, W = w1.alloc (.cells #[u, u] 3) := ⟨_, rfl⟩
   have kW2 : Kept (fun _ => False) w1 W2 := by rw [hW2]; exact (Kept.refl _ _).alloc _
   obtain ⟨v2, w2, r2, A2, B2, C2, D2, E2⟩ := append_fill Tryz.prog W2 30 30 3 i0 _ u 8 Tryz.underlying30 hi0 hz0 hzs hzb rfl (.slice a k cp) k (ownsRow_kept B1 kW2 (fun _ _ h => h)) _ 2 (src_new W2 w1.heap.size 3 30 Tryz.underlying30 [u, u] (by rw [hW2]; exact heap_alloc_new w1 _) ho2) (by decide) (by unfold maxLen; omega) (by omega)
   obtain ⟨W3, hW3⟩ : ∃ W, W = w2.alloc (.cells #[u, u, u] 3) := ⟨_, rfl⟩
   have kW3 : Kept (fun _ => False) w2 W3 := by rw [hW3]; exact (Kept.refl _ _).alloc _
   obtain ⟨v3, w3, r3, A3, B3, C3, D3, E3⟩ := append_fill Tryz.prog W3 30 30 3 i0 _ u 8 Tryz.underlying30 hi0 hz0 hzs hzb rfl (.slice a k cp) k (ownsRow_kept B2 kW3 (fun _ _ h => h)) _ 3 (src_new W3 w2.heap.size 3 30 Tryz.underlying30 [u, u, u] (by rw [hW3]; exact heap_alloc_new w2 _) ho3) (by decide) (by unfold maxLen; omega) (by omega)
   have f0 := full_of_own B3 (by omega)
   have f1 : FullAt w3 v1 u := C3 _ ((C2 _ ((full_of_own A1 (by omega)).keep kW2 (fun _ _ h => h))).keep kW3 (fun _ _ h => h))
   have f2 : FullAt w3 v2 u := C3 _ ((full_of_own A2 (by omega)).keep kW3 (fun _ _ h => h))
   have f3 : FullAt w3 v3 u := full_of_own A3 (by omega)
   have K1 : Kept (fun b => (Value.slice a k cp).ownBlock = some b) w w1 := (R2.none kW1).trans' D1
   have K2 : Kept (fun b => (Value.slice a k cp).ownBlock = some b) w w2 := (K1.none kW2).trans' D2
   have K3 : Kept (fun b => (Value.slice a k cp).ownBlock = some b) w w3 := (K2.none kW3).trans' D3
   have o1 : ∀ b, v1.ownBlock = some b → ((Value.slice a k cp).ownBlock = some b ∨ w.heap.size ≤ b) ∧ b < w3.heap.size := fun b hb => ⟨(E1 b hb).imp id (fun h => Nat.le_trans (Nat.le_trans R2.size kW1.size) h), Nat.lt_of_lt_of_le (A1.lt b hb).2 (Nat.le_trans (Nat.le_trans kW2.size D2.size) (Nat.le_trans kW3.size D3.size))⟩
   have o2 : ∀ b, v2.ownBlock = some b → ((Value.slice a k cp).ownBlock = some b ∨ w.heap.size ≤ b) ∧ b < w3.heap.size := fun b hb => ⟨(E2 b hb).imp id (fun h => Nat.le_trans (Nat.le_trans K1.size kW2.size) h), Nat.lt_of_lt_of_le (A2.lt b hb).2 (Nat.le_trans kW3.size D3.size)⟩
   have o3 : ∀ b, v3.ownBlock = some b → ((Value.slice a k cp).ownBlock = some b ∨ w.heap.size ≤ b) ∧ b < w3.heap.size := fun b hb => ⟨(E3 b hb).imp id (fun h => Nat.le_trans (Nat.le_trans K2.size kW3.size) h), (A3.lt b hb).2⟩
   obtain ⟨x1, y1, ex1, _, _⟩ := own_slice A1
   obtain ⟨x2, y2, ex2, _, _⟩ := own_slice A2
   obtain ⟨x3, y3, ex3, _, _⟩ := own_slice A3
   have G3 := HW.out.keep K3 (fun b hb => HOFF.out b (Or.inl hb))
   obtain ⟨W4, hW4⟩ : ∃ W, W = w3.alloc (.cells #[.slice a k cp, v1, v2, v3] 30) := ⟨_, rfl⟩
   have kW4 : Kept (fun _ => False) w3 W4 := by rw [hW4]; exact (Kept.refl _ _).alloc _
   have G4 := G3.quiet kW4
   obtain ⟨j0, hj0, jz0, jzs, jzb⟩ := info_parts info_ints
   have how : ∀ v ∈ [Value.slice a k cp, v1, v2, v3], v.oneCell' = true := by intro v hv; simp at hv; rcases hv with rfl | rfl | rfl | rfl <;> first | rfl | (rw [ex1]; rfl) | (rw [ex2]; rfl) | (rw [ex3]; rfl)
   have hrow2 : W4.ownsRow 0 30 1 (S.vs 2) S.ns.length S.ns := G4.core.rows 2 (by decide)
   obtain ⟨nv, w5, r4, A4, D4, E4⟩ := append_strong Tryz.prog W4 28 28 30 j0 _ 1 24 Tryz.underlying28 hj0 jz0 jzs jzb rfl (by decide) (S.vs 2) S.ns.length S.ns hrow2 _ 4 _ (src_new W4 w3.heap.size 30 28 Tryz.underlying28 [.slice a k cp, v1, v2, v3] (by rw [hW4]; exact heap_alloc_new w3 _) how) (by decide) (by unfold maxLen; omega) (by omega)
   have hlb4 : ∀ b, LB { S with ns := S.ns ++ [.slice a k cp, v1, v2, v3], vs := updF S.vs 2 nv } b → b < W4.heap.size ∧ ¬ WOwn bw S.vs b ∧ ∀ p ∈ S.ps, ¬ (p.F b ∨ p.G b) := by
    rintro b ⟨v, hv, hb⟩
    rcases hv with hv | hv
    ·rcases List.mem_append.1 hv with hv | hv
     ·exact G4.offL b ⟨v, Or.inl hv, hb⟩
     ·simp only [List.mem_cons, List.not_mem_nil, or_false] at hv
      have key : ((Value.slice a k cp).ownBlock = some b ∨ w.heap.size ≤ b) ∧ b < w3.heap.size := by
       rcases hv with rfl | rfl | rfl | rfl
       ·exact ⟨Or.inl hb, (B3.lt b hb).2⟩
       ·exact o1 b hb
       ·exact o2 b hb
       ·exact o3 b hb
      have := HOFF.out b key.1
      exact ⟨Nat.lt_of_lt_of_le key.2 kW4.size, this.1, this.2.1⟩
    ·exact G4.offL b ⟨v, Or.inr hv, hb⟩
   obtain ⟨G5, K5⟩ := G4.put (Nat.le_trans hB (Nat.le_trans K3.size kW4.size)) 2 (by decide) nv { S with ns := S.ns ++ [.slice a k cp, v1, v2, v3], vs := updF S.vs 2 nv } D4 (by
     show w5.ownsRow 0 30 1 nv (S.ns ++ [.slice a k cp, v1, v2, v3]).length (S.ns ++ [.slice a k cp, v1, v2, v3])
     rw [List.length_append]; exact A4) E4 rfl rfl (fun i hi hij => by rcases i with _ | _ | _ | _ | _ | i <;> first | rfl | omega) (fun i hi hij => by rcases i with _ | _ | _ | _ | _ | i <;> first | rfl | omega) hlb4 (fun i v m' hv hm' => by
     have hil : i < S.ms0.length := (List.getElem?_eq_some_iff.1 hm').1
     have hv' : (S.ns ++ [.slice a k cp, v1, v2, v3])[i]? = some v := hv
     rw [List.getElem?_append_left (by rw [HL.out]; exact hil)] at hv'
     exact G4.nums i v m' hv' hm') G4.txts G4.packs G4.m1pos
   obtain ⟨w6, hw6⟩ : ∃ x, x = w5.setCell ⟨bw, 2, none⟩ nv := ⟨_, rfl⟩
   rw [← hw6] at G5 K5
   have hofl : ∀ v, (∀ b, v.ownBlock = some b → ((Value.slice a k cp).ownBlock = some b ∨ w.heap.size ≤ b) ∧ b < w3.heap.size) → FullAt w3 v u → FullAt w6 v u := fun v hv hf => (hf.keep kW4 (fun _ _ h => h)).keep K5 (fun b hb ho => by
    have := HOFF.out b (hv b hb).1
    exact this.1 ho)
   have F0 := hofl _ (fun b hb => ⟨Or.inl hb, (B3.lt b hb).2⟩) f0
   have F1 := hofl _ o1 f1
   have F2 := hofl _ o2 f2
   have F3 := hofl _ o3 f3
   have K6 : Kept (fun b => B0 ≤ b) w w6 := (((K3.none kW4).mono (fun b _ hb => hvB b hb)).trans K5 (fun b hb ho => HW.out.new b (Or.inl ho)))
   obtain ⟨S5, hS5⟩ : ∃ S5 : WS, S5 = { S with ns := S.ns ++ [.slice a k cp, v1, v2, v3], vs := updF S.vs 2 nv } := ⟨_, rfl⟩
   rw [← hS5] at G5
   have hv4 : S5.vs 4 = .slice a4 S.ms0.length p4 := by rw [hS5]; exact HE.out.1
   have hm5 : S5.ms0 = S.ms0 := by rw [hS5]
   have hfin : Hid (∀ (w7 : World) (v' : Value), Kept (fun b => (Value.slice a4 S.ms0.length p4).ownBlock = some b) w6 w7 → w7.ownsRow 0 3 1 v' (S.ms0.length + 4) ((S.ms0 ++ [m, m, m, m]).map fun m => Value.int .i64 m) → (∀ b, v'.ownBlock = some b → (Value.slice a4 S.ms0.length p4).ownBlock = some b ∨ w6.heap.size ≤ b) →
     ∃ S', WSt M B0 (w7.setCell ⟨bw, 4, none⟩ v') bw S' ∧ S'.ps = S.ps ∧ S'.pks = S.pks ∧ S'.ts = S.ts ∧ S'.ms1 = S.ms1 ∧ S'.ns.length = S.ns.length + 4 ∧ S'.ms0.length = S.ms0.length + 4 ∧ Kept (fun b => B0 ≤ b) w (w7.setCell ⟨bw, 4, none⟩ v')) := by
    intro w7 v' k7 own7 new7
    have hnn : S5.ns = S.ns ++ [.slice a k cp, v1, v2, v3] := by rw [hS5]
    obtain ⟨G7, K7⟩ := G5.put (Nat.le_trans hB K6.size) 4 (by decide) v' { S5 with ms0 := S.ms0 ++ [m, m, m, m], vs := updF S5.vs 4 v' } (by rw [hv4]; exact k7) (by
      show w7.ownsRow 0 3 1 v' (S.ms0 ++ [m, m, m, m]).length _
      rw [List.length_append]; exact own7) (by rw [hv4]; exact new7) rfl rfl (fun i hi hij => by rcases i with _ | _ | _ | _ | _ | i <;> first | rfl | omega) (fun i hi hij => by rcases i with _ | _ | _ | _ | _ | i <;> first | rfl | omega) (fun b hb => G5.offL b hb) (fun i x m' hx hm' => by
      have hx' : S5.ns[i]? = some x := hx
      have hm' : (S.ms0 ++ [m, m, m, m])[i]? = some m' := hm'
      by_cases hil : i < S.ms0.length
      ·rw [List.getElem?_append_left hil] at hm'
       exact G5.nums i x m' hx' (by rw [hm5]; exact hm')
      ·rw [List.getElem?_append_right (by omega)] at hm'
       have hil2 : i - S.ms0.length < 4 := by
        have := (List.getElem?_eq_some_iff.1 hm').1
        simpa using this
       have hmm : m' = m := by
        have := List.mem_of_getElem? hm'
        simp at this
        exact this
       subst hmm
       rw [hnn, List.getElem?_append_right (by rw [HL.out]; omega), HL.out] at hx'
       rw [hu]
       obtain ⟨d, hd⟩ : ∃ d, i - S.ms0.length = d := ⟨_, rfl⟩
       rw [hd] at hx' hil2
       rcases d with _ | _ | _ | _ | d
       ·simp at hx'; subst hx'; exact F0
       ·simp at hx'; subst hx'; exact F1
       ·simp at hx'; subst hx'; exact F2
       ·simp at hx'; subst hx'; exact F3
       ·omega) G5.txts G5.packs G5.m1pos
    refine ⟨_, G7, by rw [hS5], by rw [hS5], by rw [hS5], by rw [hS5], ?_, ?_, K6.trans K7 (fun b hb ho => G5.new b (Or.inl ho))⟩
    ·show S5.ns.length = _
     rw [hnn, List.length_append]; rfl
    ·show (S.ms0 ++ [m, m, m, m]).length = _
     rw [List.length_append]; rfl
   subst ex1 ex2 ex3
   obtain ⟨xn, yn, exn, _, _⟩ := own_slice A4
   subst exn
   rw [HE.out.2] at r4
   have c2r := K3.cell' c2 (fun hb => (HOFF.out bw (Or.inl hb)).1 (Or.inl rfl))
   rw [HE.out.2] at c2r
   have c2W := kW4.cell' c2r (fun h => h)
   have hbk5 := (G4.core.block)
   have hbk5' := D4.heap hbk5 (own_ne hrow2 hbk5 (by decide))
   have f5 : ∀ j, w5.frozen? ⟨bw, j, none⟩ = false := Lib.frozen_of_heap hbk5'
   have z5 := lt_of_heap hbk5'
   have z4 := lt_of_heap hbk5
   have z3 := lt_of_heap G3.core.block
   have c25 : ∃ u2, w5.cell? ⟨bw, 2, none⟩ = some u2 := ⟨_, by rw [Lib.cell_of_heap hbk5']; rfl⟩
   obtain ⟨u25, c25⟩ := c25
   have c46 : w6.cell? ⟨bw, 4, none⟩ = some (.slice a4 S.ms0.length p4) := by
    have := G5.core.cells.2.2.2.2.1
    rw [hv4] at this; exact this
   have hrow6 : w6.ownsRow 0 3 1 (.slice a4 S.ms0.length p4) S.ms0.length (S.ms0.map fun m => Value.int .i64 m) := by
    have := G5.core.rows 4 (by decide)
    rw [hv4] at this
    have h2 : w6.ownsRow 0 3 1 (.slice a4 S.ms0.length p4) S5.ms0.length (S5.ms0.map fun m => Value.int .i64 m) := this
    rw [hm5] at h2; exact h2
   have hblk6 := G5.core.block
   have hob : (Value.slice a4 S.ms0.length p4).ownBlock ≠ some bw := own_ne hrow6 hblk6 (by decide)
   rw [hW1] at r1
   rw [hW2] at r2
   rw [hW3] at r3
   rw [hW4] at r4
   have HW4 : Hid (W4 = w3.alloc (.cells #[.slice a k cp, .slice x1 (k + 1) y1, .slice x2 (k + 2) y2, .slice x3 (k + 3) y3] 30)) := hW4
   have HW6 : Hid (w6 = w5.setCell ⟨bw, 2, none⟩ (.slice xn (S.ns.length + 4) yn)) := hw6
   have c2A : (w3.alloc (.cells #[.slice a k cp, .slice x1 (k + 1) y1, .slice x2 (k + 2) y2, .slice x3 (k + 3) y3] 30)).cell? ⟨bw, 2, none⟩ = some (.slice a2 S.ns.length p2) := by rw [← hW4]; exact c2W
   have UM : Hid (.int .i64 m = u) := hu
   subst hu
   have GG : Hid (WSt M B0 w6 bw S5) := G5
   clear R1 R2 HR A1 A2 A3 A4 B1 B2 B3 C1 C2 C3 D1 D2 D3 D4 E1 E2 E3 E4 f0 f1 f2 f3 F0 F1 F2 F3 K1 K2 K3 K5 K6 o1 o2 o3 G3 G4 G5 hrow2 hlb4 hofl how ho1 ho2 ho3 kW1 kW2 kW3 kW4 hW1 hW2 hW3 hW4 hw6 hS5 hbk5 hbk5' hv4 hm5 c2W c0 c1 c2 c3 c4 c5 hi0 hz0 hzs hzb hj0 jz0 jzs jzb hown hxl UM HOFF
   go_upto_region 6 with (at_builtin; refine Lib.wpList_append_run _ rfl _ _ _ _ rfl _ _ rfl rfl _ _ (r1 _) ?_)
   go_upto_region 7 with (at_builtin; refine Lib.wpList_append_run _ rfl _ _ _ _ rfl _ _ rfl rfl _ _ (r2 _) ?_)
   go_upto_region 8 with (at_builtin; refine Lib.wpList_append_run _ rfl _ _ _ _ rfl _ _ rfl rfl _ _ (r3 _) ?_)
   go_upto_region 9 with (at_builtin; refine Lib.wpList_append_run _ rfl _ _ _ _ rfl _ _ rfl rfl _ _ (r4 _) ?_)
   rw [← HW6.out]
   clear HW6 HW4 r1 r2 r3 r4 c2A c2r f5 z5 z4 z3 c25
   refine wp_region_tailB (by kernel_rfl) 15 _ rfl (by kernel_rfl) (fun b => (Value.slice a4 S.ms0.length p4).ownBlock = some b) 11 (fun i v wx => match i with
    | 0 => v = .pointer (some ⟨bw, 0, none⟩)
    | 1 => v = .pointer (some ⟨bw, 0, none⟩)
    | 2 => v = .pointer (some ⟨bw, 0, none⟩)
    | 3 => v = .pointer (some ⟨bw, 4, none⟩)
    | 4 => v = .pointer (some ⟨bw, 4, none⟩)
    | 5 => v = .slice a4 S.ms0.length p4
    | 6 => v = .int .i64 m
    | 7 => v = .int .i64 m
    | 8 => v = .int .i64 m
    | 9 => v = .int .i64 m
    | 10 => ∃ vb, v = .slice (some ⟨vb, 0, none⟩) 4 4 ∧ wx.heap[vb]? = some (.cells #[.int .i64 m, .int .i64 m, .int .i64 m, .int .i64 m] 3 (0, 0)) ∧ w6.heap.size ≤ vb
    | 11 => wx.ownsRow 0 3 1 v (S.ms0.length + 4) ((S.ms0 ++ [m, m, m, m]).map fun m => Value.int .i64 m) ∧ (∀ b, v.ownBlock = some b → (Value.slice a4 S.ms0.length p4).ownBlock = some b ∨ w6.heap.size ≤ b)
    | 12 => v = .pointer (some ⟨bw, 0, none⟩)
    | 13 => v = .pointer (some ⟨bw, 4, none⟩)
    | 14 => v = .pointer (some ⟨bw, 4, none⟩)
    | _ => True) ?_ ?_ ?_ ?_ ?_
   ·intro i v wa wb hv hk
    split at hv
    case h_11 =>
     obtain ⟨vb, h1, h2, h3⟩ := hv
     exact ⟨vb, h1, hk.heap h2 (fun h => h), h3⟩
    case h_12 =>
     exact ⟨ownsRow_kept hv.1 hk (fun _ _ h => h), hv.2⟩
    all_goals exact hv
   ·intro i v wa wb hi hv hk
    split at hv
    case h_11 =>
     obtain ⟨vb, h1, h2, h3⟩ := hv
     exact ⟨vb, h1, hk.heap h2 (fun h => by have := (hrow6.lt vb h).2; omega), h3⟩
    case h_12 =>
     exact absurd rfl hi
    all_goals exact hv
   ·intro i o' hin his hi a' wa hk' up
    have hkk : Kept (fun b => (Value.slice a4 S.ms0.length p4).ownBlock = some b) w6 wa := (((Kept.refl (fun _ => False) w6).drew).mono (fun _ _ h => h.elim)).trans hk' (fun _ _ h => h)
    have d4 := hkk.cell' c46 hob
    have hold : ∀ d : Nat, (d = 0 ∨ d = 4) → a'.tmps[d]? = _ := fun d hd => up.old d (by
     intro j oj hj hjd
     exfalso
     rcases j with _ | _ | _ | _ | _ | _ | _ | _ | _ | _ | _ | _ | _ | _ | _ | _ | j <;> simp at hj <;> subst hj <;> simp at hjd <;> omega)
    have o0 := hold 0 (by decide)
    have o4 := hold 4 (by decide)
    simp at o0 o4
    clear hold
    rcases i with _ | _ | _ | _ | _ | _ | _ | _ | _ | _ | _ | _ | _ | _ | _ | i
    all_goals simp only [List.getElem?_cons_zero, List.getElem?_cons_succ, List.getElem?_nil, Option.some.injEq, reduceCtorEq] at hi
    all_goals try subst hi
    ·simp [Oper.wp, go_sem, Act.eval, o0]
     exact ⟨_, rfl, rfl, Kept.refl _ _⟩
    ·simp [Oper.wp, go_sem, Act.eval, o0]
     exact ⟨_, rfl, rfl, Kept.refl _ _⟩
    ·obtain ⟨_, s1, rfl⟩ := up.d 1 55 rfl rfl
     simp [Oper.wp, go_sem, Act.eval, s1]
     exact ⟨_, rfl, rfl, Kept.refl _ _⟩
    ·obtain ⟨_, s2, rfl⟩ := up.d 2 56 rfl rfl
     simp [Oper.wp, go_sem, Act.eval, s2]
     exact ⟨_, rfl, rfl, Kept.refl _ _⟩
    ·obtain ⟨_, s3, rfl⟩ := up.d 3 57 rfl rfl
     simp [Oper.wp, go_sem, Act.eval, s3]
     exact ⟨_, rfl, rfl, Kept.refl _ _⟩
    ·obtain ⟨_, s4, rfl⟩ := up.d 4 58 rfl rfl
     simp [Oper.wp, go_sem, Act.eval, s4, d4]
     exact ⟨_, rfl, rfl, Kept.refl _ _⟩
    ·simp [Oper.wp, go_sem, Act.eval, o4]
     exact ⟨_, rfl, rfl, Kept.refl _ _⟩
    ·simp [Oper.wp, go_sem, Act.eval, o4]
     exact ⟨_, rfl, rfl, Kept.refl _ _⟩
    ·simp [Oper.wp, go_sem, Act.eval, o4]
     exact ⟨_, rfl, rfl, Kept.refl _ _⟩
    ·simp [Oper.wp, go_sem, Act.eval, o4]
     exact ⟨_, rfl, rfl, Kept.refl _ _⟩
    ·obtain ⟨_, s6, rfl⟩ := up.d 6 60 rfl rfl
     obtain ⟨_, s7, rfl⟩ := up.d 7 61 rfl rfl
     obtain ⟨_, s8, rfl⟩ := up.d 8 62 rfl rfl
     obtain ⟨_, s9, rfl⟩ := up.d 9 63 rfl rfl
     simp [Oper.wp, go_sem, Act.eval, s6, s7, s8, s9]
     exact ⟨_, rfl, ⟨_, rfl, heap_alloc_new wa _, hkk.size⟩, (Kept.refl _ _).alloc _⟩
    ·exact absurd rfl his
    ·obtain ⟨_, s0, rfl⟩ := up.d 0 54 rfl rfl
     simp [Oper.wp, go_sem, Act.eval, s0]
     exact ⟨_, rfl, rfl, Kept.refl _ _⟩
    ·obtain ⟨_, s12, rfl⟩ := up.d 12 66 rfl rfl
     simp [Oper.wp, go_sem, Act.eval, s12]
     exact ⟨_, rfl, rfl, Kept.refl _ _⟩
    ·obtain ⟨_, s13, rfl⟩ := up.d 13 67 rfl rfl
     simp [Oper.wp, go_sem, Act.eval, s13]
     exact ⟨_, rfl, rfl, Kept.refl _ _⟩
    ·omega
   ·intro o' _ ho a' wa hk' up
    have hkk : Kept (fun b => (Value.slice a4 S.ms0.length p4).ownBlock = some b) w6 wa := (((Kept.refl (fun _ => False) w6).drew).mono (fun _ _ h => h.elim)).trans hk' (fun _ _ h => h.elim)
    have d4 := hkk.cell' c46 hob
    simp only [List.getElem?_cons_zero, List.getElem?_cons_succ, List.getElem?_nil, Option.some.injEq, reduceCtorEq] at ho
    subst ho
    obtain ⟨_, s5, rfl⟩ := up.d 5 59 rfl rfl
    obtain ⟨v10, s10, hv10⟩ := up.d 10 64 rfl rfl
    obtain ⟨vb, e10, hvb, hvz⟩ := hv10
    subst e10
    obtain ⟨i0, hi0, hz0, hzs, hzb⟩ := info_parts info_int
    have hq : Kept (fun _ => False) w6 wa := ((Kept.refl _ w6).drew).trans' hk'
    have hsrc := src_new wa vb 3 30 Tryz.underlying30 [.int .i64 m, .int .i64 m, .int .i64 m, .int .i64 m] hvb (by intro v hv; simp at hv; subst hv; rfl)
    obtain ⟨v', w', hrun, hown', hkq, hnn⟩ := append_strong Tryz.prog wa 30 30 3 i0 _ 1 8 Tryz.underlying30 hi0 hz0 hzs hzb rfl (by decide) _ _ _ (ownsRow_kept hrow6 hq (fun _ _ h => h)) _ 4 _ hsrc (by decide) (by unfold maxLen; omega) (by omega)
    refine Lib.wp_append_run wa _ _ _ _ rfl (.slice a4 S.ms0.length p4) (.slice (some ⟨vb, 0, none⟩) 4 4) (by simp [Act.eval, s5]) (by simp [Act.eval, s10]) v' w' (hrun _) ?_
    refine ⟨v', rfl, ⟨?_, fun b hb => ?_⟩, hkq⟩
    ·rw [List.map_append]; exact hown'
    ·rcases hnn b hb with h1 | h1
     ·exact Or.inl h1
     ·exact Or.inr (Nat.le_trans hq.size h1)
   ·intro vals wz hk hvv
    obtain ⟨h11, h11b⟩ := hvv 11 (by decide)
    have h14 : vals 14 = _ := hvv 14 (by decide)
    obtain ⟨v', hv'⟩ : ∃ v', vals 11 = v' := ⟨_, rfl⟩
    rw [hv'] at h11 h11b
    obtain ⟨a7, p7, ex7, _, _⟩ := own_slice h11
    subst ex7
    have hkz : Kept (fun b => (Value.slice a4 S.ms0.length p4).ownBlock = some b) w6 wz := (((Kept.refl (fun _ => False) w6).drew).mono (fun _ _ h => h.elim)).trans hk (fun _ _ h => h)
    have HF : Hid _ := hfin.out wz (.slice a7 (S.ms0.length + 4) p7) hkz h11 h11b
    have hbz := hkz.heap hblk6 hob
    have zz := lt_of_heap hbz
    have zf : ∀ j, wz.frozen? ⟨bw, j, none⟩ = false := Lib.frozen_of_heap hbz
    have zc := hkz.cell' c46 hob
    clear hvv h11 h11b hk hkz hbz hfin hrow6 hblk6 GG HW
    simp only [List.take_succ_cons, List.take_zero, List.drop_succ_cons, List.drop_zero, putAll, Act.put, h14, hv']
    simp only [Nat.reduceAdd, Nat.zero_add, List.setIfInBounds_toArray, List.set_cons_succ, List.set_cons_zero]
    go_wp2_with fail
    go_end0
    exact ⟨rfl, HF.out⟩
theorem info_str : (Tryz.prog.info? 9).map (fun i => (i.zero, i.size, i.bytes)) = some (some (.string ⟨#[]⟩), 1, 16) := by kernel_rfl
structure WLen (S : WS) (q c : Nat) : Prop where
 ps : S.ps.length ≤ q
 pks : S.pks.length ≤ c
 nm : S.ns.length = S.ms0.length
 ns : S.ns.length ≤ 4 * q
 tm : S.ts.length = S.ms1.length
 ts : S.ts.length ≤ 4 * q
def strsV (ls : List (List UInt8)) : List Value := ls.map fun l => .string ⟨l.toArray⟩
theorem WSt.addPacks {M B0 : Nat} {w w1 : World} {bw : Nat} {S : WS} (h : WSt M B0 w bw S) (hB : B0 ≤ w.heap.size) (ls : List (List UInt8)) (hls : ∀ l ∈ ls, 4 < l.length ∧ l.length ≤ 65536) (v' : Value) (hk : Kept (fun k => (S.vs 1).ownBlock = some k) w w1) (hown : w1.ownsRow 0 9 1 v' (S.pks.length + ls.length) (strsV S.pks ++ strsV ls)) (hN : ∀ k, v'.ownBlock = some k → (S.vs 1).ownBlock = some k ∨ w.heap.size ≤ k) :
  WSt M B0 (w1.setCell ⟨bw, 1, none⟩ v') bw { S with pks := S.pks ++ ls, vs := updF S.vs 1 v' } ∧ Kept (WOwn bw S.vs) w (w1.setCell ⟨bw, 1, none⟩ v') := by
 refine h.put hB 1 (by decide) v' { S with pks := S.pks ++ ls, vs := updF S.vs 1 v' } hk ?_ hN rfl rfl (fun i hi hij => by rcases i with _ | _ | _ | _ | _ | i <;> first | rfl | omega) (fun i hi hij => by rcases i with _ | _ | _ | _ | _ | i <;> first | rfl | omega) (fun b hb => h.offL b hb) h.nums h.txts ?_ h.m1pos
 ·show w1.ownsRow 0 9 1 v' (S.pks ++ ls).length ((S.pks ++ ls).map _)
  rw [List.length_append, List.map_append]
  exact hown
 ·intro l hl
  rcases List.mem_append.1 hl with hl | hl
  ·exact h.packs l hl
  ·exact hls l hl
theorem right_len {N : Nat} {l : List UInt8} (h : Right N l) (hN : N ≤ 8) : 4 < l.length ∧ l.length ≤ 65536 := by
 obtain ⟨h1, h2⟩ := h.packet hN
 rw [h1, packet_length, h2.seen]
 split <;> omega
set_option maxHeartbeats 2000000 in
set_option maxRecDepth 100000 in
theorem writes_any {M B0 : Nat} {w : World} {bw : Nat} {S : WS} (h : WSt M B0 w bw S) (hB : B0 ≤ w.heap.size) (hM : M ≤ 4294967200) (hpl : S.pks.length ≤ 1099511627776) {i : Nat} {p : PP} (hi : S.ps[i]? = some p) (kind P A B : Int) (hA1 : -9223372036854775808 ≤ A) (hA2 : A ≤ 9223372036854775807) (la sa : Option Addr) (ln lc sn sc : Nat) :
  Calls Tryz.prog 19 #[.pointer (some ⟨bw, 0, none⟩), .agg #[.pointer (some ⟨p.bx, 0, none⟩), .pointer (some ⟨p.by_, 0, none⟩)], .agg #[.int .i64 kind, .int .i64 P, .int .i64 A, .int .i64 B, .slice la ln lc, .slice sa sn sc]] w fun e' w' =>
   e' = .returned (.bool true) ∧ Kept (fun b => B0 ≤ b) w w' ∧ ∃ S', WSt (M + 1) B0 w' bw S' ∧ S'.ps.length = S.ps.length ∧ (S'.pks.length = S.pks.length ∨ S'.pks.length = S.pks.length + 1) ∧ S'.ns = S.ns ∧ S'.ts = S.ts ∧ S'.ms0 = S.ms0 ∧ S'.ms1 = S.ms1 := by
 have hpm := List.mem_of_getElem? hi
 have hP := h.peers p hpm
 obtain ⟨R, hR⟩ : ∃ R : Int, IntKind.i32.wrap B = R := ⟨_, rfl⟩
 have hR1 : -2147483648 ≤ R := by rw [← hR, IntKind.wrap_i32]; omega
 have hR2 : R ≤ 2147483647 := by rw [← hR, IntKind.wrap_i32]; omega
 have key : ∀ (ci cr : Nat) (ax ay : Array Value), Both ci cr ax ay p.N M p.s p.t → ∃ (bs : List UInt8) (er : Int), (er = 0 → 4 < bs.length ∧ bs.length ≤ 65536) ∧ ∀ W, Kept (fun _ => False) w W → Calls Tryz.prog ci (#[.pointer (some ⟨p.bx, 0, none⟩)] ++ ax) W fun e' w1 => e' = .returned (.tuple #[.string ⟨bs.toArray⟩, .int .i64 er]) ∧ Kept (fun b => B0 ≤ b) w w1 ∧
   (∀ b, w.heap.size ≤ b → b < W.heap.size → w1.heap[b]? = W.heap[b]?) ∧ Calls Tryz.prog cr (#[.pointer (some ⟨p.by_, 0, none⟩)] ++ ay) w1 fun e' w2 => e' = .returned (.tuple #[.string ⟨bs.toArray⟩, .int .i64 er]) ∧ Kept (fun b => B0 ≤ b) w w2 ∧ (∀ b, w.heap.size ≤ b → b < W.heap.size → w2.heap[b]? = W.heap[b]?) ∧ ∃ ps', WSt (M + 1) B0 w2 bw { S with ps := ps' } ∧ ps'.length = S.ps.length := by
  rintro ci cr ax ay ⟨bs, er, s', hright, hx, hy⟩
  refine ⟨bs, er, fun h0 => right_len (hright h0) hP.two.fit.n8, fun W hW => ?_⟩
  have hWS := h.quiet hW
  have hPW := hWS.peers p hpm
  refine (hx W p.bx p.F hPW.x).mono ?_
  rintro e' w1 ⟨he1, T⟩
  obtain ⟨F', X, K1, N1⟩ := T
  have hK1 : Kept (fun b => B0 ≤ b) w w1 := (hW.mono (fun _ _ h => h.elim)).trans K1 (fun b _ hb => h.new b (Or.inr ⟨p, hpm, Or.inl hb⟩))
  refine ⟨he1, hK1, fun b hb1 hb2 => K1.block b hb2 (fun hf => by have := hP.x.lt b hf; omega), ?_⟩
  refine (hy w1 p.by_ p.G (hPW.y.keep K1 (fun b hb hf => hPW.off b hf hb))).mono ?_
  rintro e'' w2 ⟨he2, t', two, RT⟩
  have hRT := RT
  obtain ⟨G', Y, K2, N2⟩ := RT
  obtain ⟨F2, G2, hWS2, hK2, hK3⟩ := hWS.turn (Nat.le_trans hB hW.size) (Nat.le_succ M) hi ⟨F', X, K1, N1⟩ hRT two
  refine ⟨he2, (hW.mono (fun _ _ h => h.elim)).trans hK2 (fun _ _ h => h), fun b hb1 hb2 => hK3.block b hb2 (fun hf => ?_), _, hWS2, by rw [List.length_set]⟩
  rcases hf with hf | hf
  ·have := hP.x.lt b hf; omega
  ·have := hP.y.2 b hf; omega
 have hI := key _ _ _ _ (both_insert hP.two (by omega) A R hA1 hA2 hR1 hR2)
 have hD := key _ _ _ _ (both_delete hP.two (by omega) A hA1 hA2)
 obtain ⟨W, hWe⟩ : ∃ W, W = (w.alloc (.cells #[.pointer (some ⟨p.bx, 0, none⟩), .pointer (some ⟨p.by_, 0, none⟩)] 47)).alloc (.cells #[.int .i64 kind, .int .i64 P, .int .i64 A, .int .i64 B, .slice la ln lc, .slice sa sn sc] 36) := ⟨_, rfl⟩
 have hW : Kept (fun _ => False) w W := by rw [hWe]; exact ((Kept.refl _ w).alloc _).alloc _
 have hb1 : W.heap[w.heap.size]? = some (.cells #[.pointer (some ⟨p.bx, 0, none⟩), .pointer (some ⟨p.by_, 0, none⟩)] 47 (0, 0)) := by
  rw [hWe, Below.heap_alloc _ _ _ (by simp)]; exact heap_alloc_new w _
 have hb2 : W.heap[w.heap.size + 1]? = some (.cells #[.int .i64 kind, .int .i64 P, .int .i64 A, .int .i64 B, .slice la ln lc, .slice sa sn sc] 36 (0, 0)) := by
  rw [hWe]
  have := heap_alloc_new (w.alloc (.cells #[.pointer (some ⟨p.bx, 0, none⟩), .pointer (some ⟨p.by_, 0, none⟩)] 47)) (.cells #[.int .i64 kind, .int .i64 P, .int .i64 A, .int .i64 B, .slice la ln lc, .slice sa sn sc] 36)
  simpa using this
 have hz : w.heap.size + 1 < W.heap.size := lt_of_heap hb2
 have p0 : W.cell? ⟨w.heap.size, 0, none⟩ = some (.pointer (some ⟨p.bx, 0, none⟩)) := by rw [Lib.cell_of_heap hb1]; rfl
 have p1 : W.cell? ⟨w.heap.size, 1, none⟩ = some (.pointer (some ⟨p.by_, 0, none⟩)) := by rw [Lib.cell_of_heap hb1]; rfl
 have q0 : W.cell? ⟨w.heap.size + 1, 0, none⟩ = some (.int .i64 kind) := by rw [Lib.cell_of_heap hb2]; rfl
 have q2 : W.cell? ⟨w.heap.size + 1, 2, none⟩ = some (.int .i64 A) := by rw [Lib.cell_of_heap hb2]; rfl
 have q3 : W.cell? ⟨w.heap.size + 1, 3, none⟩ = some (.int .i64 B) := by rw [Lib.cell_of_heap hb2]; rfl
 have hz0 : w.heap.size < W.heap.size := by omega
 have hfin : Hid (∀ (bs : List UInt8) (er : Int) (w2 : World) (ps' : List PP), (er = 0 → 4 < bs.length ∧ bs.length ≤ 65536) → Kept (fun b => B0 ≤ b) w w2 → WSt (M + 1) B0 w2 bw { S with ps := ps' } → ps'.length = S.ps.length → er = 0 →
   ∃ a1 c1, S.vs 1 = .slice a1 S.pks.length c1 ∧ w2.cell? ⟨bw, 1, none⟩ = some (.slice a1 S.pks.length c1) ∧ bw < w2.heap.size ∧ ∃ v' w3, (∀ ty, (Builtin.append_ #[27, 27] ty #[.slice a1 S.pks.length c1, .slice (some ⟨w2.heap.size, 0, none⟩) 1 1]).run Tryz.prog (w2.alloc (.cells #[.string ⟨bs.toArray⟩] 9)) = .ok v' w3) ∧ (∃ a2 n2 c2, v' = .slice a2 n2 c2) ∧ (∃ u, w3.cell? ⟨bw, 1, none⟩ = some u) ∧ bw < w3.heap.size ∧ (∀ j, w3.frozen? ⟨bw, j, none⟩ = false) ∧
    Kept (fun b => B0 ≤ b) w (w3.setCell ⟨bw, 1, none⟩ v') ∧ WSt (M + 1) B0 (w3.setCell ⟨bw, 1, none⟩ v') bw { S with ps := ps', pks := S.pks ++ [bs], vs := updF S.vs 1 v' }) := by
  intro bs er w2 ps' hbs hk2 G hpl' he0
  obtain ⟨a1, c1, e1, _, _⟩ := own_slice (G.core.rows 1 (by decide))
  have e1 : S.vs 1 = .slice a1 S.pks.length c1 := e1
  have cc := G.core.cells.2.1
  have cc : w2.cell? ⟨bw, 1, none⟩ = some (S.vs 1) := cc
  rw [e1] at cc
  have kA : Kept (fun _ => False) w2 (w2.alloc (.cells #[.string ⟨bs.toArray⟩] 9)) := (Kept.refl _ _).alloc _
  have GA := G.quiet kA
  obtain ⟨i0, hi0, hz0, hzs, hzb⟩ := info_parts info_str
  have hrow : (w2.alloc (.cells #[.string ⟨bs.toArray⟩] 9)).ownsRow 0 9 1 (S.vs 1) S.pks.length (strsV S.pks) := GA.core.rows 1 (by decide)
  have hsrc := src_new (w2.alloc (.cells #[.string ⟨bs.toArray⟩] 9)) w2.heap.size 9 27 Tryz.underlying27 [.string ⟨bs.toArray⟩] (heap_alloc_new w2 _) (by intro v hv; simp at hv; subst hv; rfl)
  obtain ⟨v', w3, hr, hown', hkp, hnn⟩ := append_strong Tryz.prog _ 27 27 9 i0 _ 1 16 Tryz.underlying27 hi0 hz0 hzs hzb rfl (by decide) (S.vs 1) S.pks.length _ hrow _ 1 _ hsrc (by decide) (by unfold maxLen; omega) (by omega)
  obtain ⟨G3, K3⟩ := GA.addPacks (Nat.le_trans hB (Nat.le_trans hk2.size kA.size)) [bs] (by intro l hl; rw [List.mem_singleton.1 hl]; exact hbs he0) v' hkp hown' hnn
  obtain ⟨a2, c2, e2, _, _⟩ := own_slice hown'
  have hbk := hkp.heap GA.core.block (own_ne hrow GA.core.block (by decide))
  rw [e1] at hr
  refine ⟨a1, c1, e1, cc, lt_of_heap G.core.block, v', w3, hr, ⟨a2, _, c2, e2⟩, ⟨_, by rw [Lib.cell_of_heap hbk]; rfl⟩, lt_of_heap hbk, Lib.frozen_of_heap hbk, ?_, G3⟩
  exact ((hk2.none kA).trans K3 (fun b hb ho => GA.new b (Or.inl ho)))
 have hnum := lnum_any
 clear key h hP hb1 hb2
 by_cases hk4 : kind = 4
 ·obtain ⟨bs, er, hbs, hc⟩ := hI
  subst hk4
  have hc1 := hc W hW
  simp only [List.append_toArray, List.cons_append, List.nil_append] at hc1
  have HBS : Hid (er = 0 → 4 < bs.length ∧ bs.length ≤ 65536) := hbs
  have HHW : Hid (w.heap.size + 1 < W.heap.size) := hz
  clear hc hD hbs
  go_enter Tryz.func19, Tryz.ntmps19
  go_upto_region 1 with fail
  rw [← hWe]
  clear hWe
  go_wp2_with fail
  refine hc1.mono ?_
  rintro e1 w1 ⟨rfl, hk1, hb1, hc2⟩
  replace p1 := (World.cell?_of_block (w := W) (a := ⟨w.heap.size, 1, none⟩) (hb1 w.heap.size (Nat.le_refl _) (by omega))).trans p1
  replace q2 := (World.cell?_of_block (w := W) (a := ⟨w.heap.size + 1, 2, none⟩) (hb1 (w.heap.size + 1) (by omega) (by omega))).trans q2
  have z1 : w.heap.size < w1.heap.size := World.block_lt_of_cell? w1 _ p1
  have z2 : w.heap.size + 1 < w1.heap.size := World.block_lt_of_cell? w1 _ q2
  clear hc1 hk1 hb1 p0 q0 q3 hz hz0
  go_wp2_with fail
  refine hc2.mono ?_
  rintro e2 w2 ⟨rfl, hk2, _, ps', G, hpl'⟩
  clear hc2 p1 q2 z1 z2
  by_cases he : er = 0
  ·obtain ⟨a1, c1, e1, cc, bz, v', w3, hr, ⟨a2, n2, c2, rfl⟩, ⟨u, hu⟩, z3, f3, K3, G3⟩ := hfin.out bs er w2 ps' HBS.out hk2 G hpl' he
   have HE : Hid (∃ S', WSt (M + 1) B0 (w3.setCell ⟨bw, 1, none⟩ (.slice a2 n2 c2)) bw S' ∧ S'.ps.length = S.ps.length ∧ (S'.pks.length = S.pks.length ∨ S'.pks.length = S.pks.length + 1) ∧ S'.ns = S.ns ∧ S'.ts = S.ts ∧ S'.ms0 = S.ms0 ∧ S'.ms1 = S.ms1) := ⟨_, G3, hpl', Or.inr (by show (S.pks ++ [bs]).length = _; simp), rfl, rfl, rfl, rfl⟩
   have HK : Hid (Kept (fun b => B0 ≤ b) w (w3.setCell ⟨bw, 1, none⟩ (.slice a2 n2 c2))) := K3
   obtain ⟨SS, hSS⟩ : ∃ SS : ByteArray, (⟨bs.toArray⟩ : ByteArray) = SS := ⟨_, rfl⟩
   rw [hSS] at hr ⊢
   subst he
   clear hfin G G3 K3 e1 hk2 hpl' HBS hSS
   go_upto_region 11 with (at_builtin; refine Lib.wpList_append_run _ rfl _ _ _ _ rfl _ _ rfl rfl _ _ (hr _) ?_)
   clear hr cc bz hu
   go_wp2_with (go_at_call 11; refine (hnum _ _).mono ?_; rintro e3 w4 ⟨rfl, rfl⟩)
   go_ret
   exact ⟨rfl, HK.out, HE.out⟩
  ·have HE : Hid (∃ S', WSt (M + 1) B0 w2 bw S' ∧ S'.ps.length = S.ps.length ∧ (S'.pks.length = S.pks.length ∨ S'.pks.length = S.pks.length + 1) ∧ S'.ns = S.ns ∧ S'.ts = S.ts ∧ S'.ms0 = S.ms0 ∧ S'.ms1 = S.ms1) := ⟨_, G, hpl', Or.inl rfl, rfl, rfl, rfl, rfl⟩
   have HK : Hid (Kept (fun b => B0 ≤ b) w w2) := hk2
   obtain ⟨SS, hSS⟩ : ∃ SS : ByteArray, (⟨bs.toArray⟩ : ByteArray) = SS := ⟨_, rfl⟩
   rw [hSS]
   have heb : (er == 0) = false := by rw [beq_eq_false_iff_ne]; exact he
   clear hfin G hk2 hpl' HBS hSS
   go_wp2_with (go_at_call 11; refine (hnum _ _).mono ?_; rintro e3 w4 ⟨rfl, rfl⟩)
   go_ret
   exact ⟨rfl, HK.out, HE.out⟩
 ·obtain ⟨bs, er, hbs, hc⟩ := hD
  have hk4b : (kind == 4) = false := by rw [beq_eq_false_iff_ne]; exact hk4
  have hc1 := hc W hW
  simp only [List.append_toArray, List.cons_append, List.nil_append] at hc1
  have HBS : Hid (er = 0 → 4 < bs.length ∧ bs.length ≤ 65536) := hbs
  have HHW : Hid (w.heap.size + 1 < W.heap.size) := hz
  clear hc hI hbs
  go_enter Tryz.func19, Tryz.ntmps19
  go_upto_region 1 with fail
  rw [← hWe]
  clear hWe
  go_wp2_with fail
  refine hc1.mono ?_
  rintro e1 w1 ⟨rfl, hk1, hb1, hc2⟩
  replace p1 := (World.cell?_of_block (w := W) (a := ⟨w.heap.size, 1, none⟩) (hb1 w.heap.size (Nat.le_refl _) (by omega))).trans p1
  replace q2 := (World.cell?_of_block (w := W) (a := ⟨w.heap.size + 1, 2, none⟩) (hb1 (w.heap.size + 1) (by omega) (by omega))).trans q2
  have z1 : w.heap.size < w1.heap.size := World.block_lt_of_cell? w1 _ p1
  have z2 : w.heap.size + 1 < w1.heap.size := World.block_lt_of_cell? w1 _ q2
  clear hc1 hk1 hb1 p0 q0 q3 hz hz0
  go_wp2_with fail
  refine hc2.mono ?_
  rintro e2 w2 ⟨rfl, hk2, _, ps', G, hpl'⟩
  clear hc2 p1 q2 z1 z2
  by_cases he : er = 0
  ·obtain ⟨a1, c1, e1, cc, bz, v', w3, hr, ⟨a2, n2, c2, rfl⟩, ⟨u, hu⟩, z3, f3, K3, G3⟩ := hfin.out bs er w2 ps' HBS.out hk2 G hpl' he
   have HE : Hid (∃ S', WSt (M + 1) B0 (w3.setCell ⟨bw, 1, none⟩ (.slice a2 n2 c2)) bw S' ∧ S'.ps.length = S.ps.length ∧ (S'.pks.length = S.pks.length ∨ S'.pks.length = S.pks.length + 1) ∧ S'.ns = S.ns ∧ S'.ts = S.ts ∧ S'.ms0 = S.ms0 ∧ S'.ms1 = S.ms1) := ⟨_, G3, hpl', Or.inr (by show (S.pks ++ [bs]).length = _; simp), rfl, rfl, rfl, rfl⟩
   have HK : Hid (Kept (fun b => B0 ≤ b) w (w3.setCell ⟨bw, 1, none⟩ (.slice a2 n2 c2))) := K3
   obtain ⟨SS, hSS⟩ : ∃ SS : ByteArray, (⟨bs.toArray⟩ : ByteArray) = SS := ⟨_, rfl⟩
   rw [hSS] at hr ⊢
   subst he
   clear hfin G G3 K3 e1 hk2 hpl' HBS hSS
   go_upto_region 11 with (at_builtin; refine Lib.wpList_append_run _ rfl _ _ _ _ rfl _ _ rfl rfl _ _ (hr _) ?_)
   clear hr cc bz hu
   go_wp2_with (go_at_call 11; refine (hnum _ _).mono ?_; rintro e3 w4 ⟨rfl, rfl⟩)
   go_ret
   exact ⟨rfl, HK.out, HE.out⟩
  ·have HE : Hid (∃ S', WSt (M + 1) B0 w2 bw S' ∧ S'.ps.length = S.ps.length ∧ (S'.pks.length = S.pks.length ∨ S'.pks.length = S.pks.length + 1) ∧ S'.ns = S.ns ∧ S'.ts = S.ts ∧ S'.ms0 = S.ms0 ∧ S'.ms1 = S.ms1) := ⟨_, G, hpl', Or.inl rfl, rfl, rfl, rfl, rfl⟩
   have HK : Hid (Kept (fun b => B0 ≤ b) w w2) := hk2
   obtain ⟨SS, hSS⟩ : ∃ SS : ByteArray, (⟨bs.toArray⟩ : ByteArray) = SS := ⟨_, rfl⟩
   rw [hSS]
   have heb : (er == 0) = false := by rw [beq_eq_false_iff_ne]; exact he
   clear hfin G hk2 hpl' HBS hSS
   go_wp2_with (go_at_call 11; refine (hnum _ _).mono ?_; rintro e3 w4 ⟨rfl, rfl⟩)
   go_ret
   exact ⟨rfl, HK.out, HE.out⟩
theorem info_pair : (Tryz.prog.info? 47).map (fun i => (i.zero, i.size, i.bytes)) = some (some (.agg #[.pointer none, .pointer none]), 2, 16) := by kernel_rfl
set_option maxHeartbeats 400000 in
theorem new_bad (peer peers : Int) (w : World) (h : newOk peer peers = false) :
  Calls Tryz.prog 9 #[.int .i64 peer, .int .i64 peers] w fun e' w' => e' = .returned (.tuple #[.pointer none, .int .i64 1]) ∧ w' = w := by
 have h : ¬ (1 ≤ peers ∧ peers ≤ 8 ∧ 0 ≤ peer ∧ peer < peers) := by simpa [newOk] using h
 by_cases c1 : peers < 1
 ·clear h
  go_enter Tryz.func9, Tryz.ntmps9
  go_wp2
  go_ret2
  exact ⟨rfl, rfl⟩
 by_cases c2 : 8 < peers
 ·clear h
  go_enter Tryz.func9, Tryz.ntmps9
  go_wp2
  go_ret2
  exact ⟨rfl, rfl⟩
 by_cases c3 : peer < 0
 ·clear h
  go_enter Tryz.func9, Tryz.ntmps9
  go_wp2
  go_ret2
  exact ⟨rfl, rfl⟩
 have c4 : peers ≤ peer := by omega
 clear h
 go_enter Tryz.func9, Tryz.ntmps9
 go_wp2
 go_ret2
 exact ⟨rfl, rfl⟩
def newPr (peer peers : Nat) : Pr := ⟨peer, 0, List.replicate peers 0, [], [], List.replicate peers []⟩
theorem two_new (peer peers : Nat) (h1 : 1 ≤ peers) (h2 : peers ≤ 8) (h4 : peer < peers) : Two peers 0 (newPr peer peers) (newSt peer peers) := by
 have hs : ∀ n, (List.replicate n 0 : List Nat).sum = 0 := fun n => by induction n with | zero => rfl | succ n ih => rw [List.replicate_succ, List.sum_cons, ih]
 refine ⟨⟨by simp [newPr], h1, h2, h4, ?_, by show (0 : Nat) < _; decide, fun o ho => (by cases ho), Nat.zero_le _, fun e he => (by cases he), ?_⟩, ⟨rfl, rfl, ?_, rfl, List.Perm.refl _, ?_⟩, List.Pairwise.nil, fun e he => (by cases he), Nat.le_refl _, ?_, fun j l hl o ho => (by rw [List.eq_of_mem_replicate (List.mem_of_getElem? (show (List.replicate peers [])[j]? = some l from hl))] at ho; cases ho)⟩
 ·intro n hn
  have : n = 0 := List.eq_of_mem_replicate hn
  subst this; decide
 ·intro l hl o ho
  have : l = [] := List.eq_of_mem_replicate hl
  subst this; cases ho
 ·show List.replicate peers 0 = (List.replicate peers ([] : List OpeV)).map List.length
  rw [List.map_replicate]; rfl
 ·show List.replicate peers [] = (List.replicate peers ([] : List OpeV)).map (List.map Prod.fst)
  rw [List.map_replicate]; rfl
 ·show (List.replicate peers 0 : List Nat).sum + 0 ≤ 0
  rw [hs]; exact Nat.le_refl _
theorem WSt.addPair {M B0 : Nat} {w w1 : World} {bw : Nat} {S : WS} (h : WSt M B0 w bw S) (hB : B0 ≤ w.heap.size) (p : PP) (hp : p.At M w) (hoff : ∀ b, p.F b ∨ p.G b → B0 ≤ b ∧ ¬ WOwn bw S.vs b ∧ (∀ q ∈ S.ps, ¬ (q.F b ∨ q.G b)) ∧ ¬ LB S b) (v' : Value) (hk : Kept (fun k => (S.vs 0).ownBlock = some k) w w1) (hown : w1.ownsRow 0 47 2 v' (S.ps.length + 1) (ppCells S.ps ++ p.cells)) (hN : ∀ k, v'.ownBlock = some k → (S.vs 0).ownBlock = some k ∨ w.heap.size ≤ k) :
  WSt M B0 (w1.setCell ⟨bw, 0, none⟩ v') bw { S with ps := S.ps ++ [p], vs := updF S.vs 0 v' } ∧ Kept (WOwn bw S.vs) w (w1.setCell ⟨bw, 0, none⟩ v') := by
 obtain ⟨c1, c2, c3⟩ := h.core.store 0 (by decide) v' (S.ps.length + 1) (ppCells S.ps ++ p.cells) hk hown hN
 obtain ⟨l1, l2, l3⟩ := h.all_lt
 have hplt : ∀ b, p.F b ∨ p.G b → b < w.heap.size := fun b hb => by
  rcases hb with hb | hb
  ·exact hp.x.lt b hb
  ·exact hp.y.2 b hb
 refine ⟨⟨?_, ?_, ?_, ?_, ?_, ?_, ?_, ?_, h.packs, h.m1pos⟩, c2⟩
 ·refine c1.same (fun i hi => rfl) (fun i hi => ?_) (fun i hi => ?_)
  ·rcases i with _ | _ | _ | _ | _ | i
   ·show (S.ps ++ [p]).length = _
    rw [List.length_append]; rfl
   all_goals rfl
  ·rcases i with _ | _ | _ | _ | _ | i
   ·show ppCells (S.ps ++ [p]) = _
    rw [ppCells_append, updF_same]
    show _ ++ (p.cells ++ []) = _
    rw [List.append_nil]
   all_goals rfl
 ·intro q hq
  rcases List.mem_append.1 hq with hq | hq
  ·exact (h.peers q hq).keep c2 (fun b hb ho => h.offO q hq b ho hb)
  ·rw [List.mem_singleton.1 hq]
   exact hp.keep c2 (fun b hb ho => (hoff b hb).2.1 ho)
 ·intro i j q r hi hj hij b hb
  have hi : (S.ps ++ [p])[i]? = some q := hi
  have hj : (S.ps ++ [p])[j]? = some r := hj
  have hlast : ∀ (i : Nat) (q : PP), (S.ps ++ [p])[i]? = some q → (i < S.ps.length ∧ S.ps[i]? = some q) ∨ (i = S.ps.length ∧ q = p) := fun i q hi => by
   by_cases hil : i < S.ps.length
   ·rw [List.getElem?_append_left hil] at hi; exact Or.inl ⟨hil, hi⟩
   ·rw [List.getElem?_append_right (by omega)] at hi
    have hi0 : i - S.ps.length = 0 := by
     have := (List.getElem?_eq_some_iff.1 hi).1
     simp at this; omega
    rw [hi0] at hi
    simp at hi
    exact Or.inr ⟨by omega, hi.symm⟩
  rcases hlast i q hi with ⟨i1, i2⟩ | ⟨i1, rfl⟩
  ·rcases hlast j r hj with ⟨j1, j2⟩ | ⟨j1, rfl⟩
   ·exact h.apart i j q r i2 j2 hij b hb
   ·exact fun hr => (hoff b hr).2.2.1 q (List.mem_of_getElem? i2) hb
  ·rcases hlast j r hj with ⟨j1, j2⟩ | ⟨j1, rfl⟩
   ·exact (hoff b hb).2.2.1 r (List.mem_of_getElem? j2)
   ·omega
 ·intro i v m h1 h2
  exact (h.nums i v m h1 h2).keep c2 (fun b hb ho => (h.offL b ⟨v, Or.inl (List.mem_of_getElem? h1), hb⟩).2.1 ho)
 ·intro i v m h1 h2
  exact (h.txts i v m h1 h2).keep c2 (fun b hb ho => (h.offL b ⟨v, Or.inr (List.mem_of_getElem? h1), hb⟩).2.1 ho)
 ·intro q hq b hb hqb
  have hlt : b < w.heap.size := by
   rcases List.mem_append.1 hq with hq | hq
   ·exact l2 q hq b hqb
   ·rw [List.mem_singleton.1 hq] at hqb; exact hplt b hqb
  have ho : WOwn bw S.vs b := by
   rcases c3 b hb with h1 | h1
   ·exact h1
   ·omega
  rcases List.mem_append.1 hq with hq | hq
  ·exact h.offO q hq b ho hqb
  ·rw [List.mem_singleton.1 hq] at hqb
   exact (hoff b hqb).2.1 ho
 ·intro b hb
  have hb : LB S b := hb
  obtain ⟨a1, a2, a3⟩ := h.offL b hb
  refine ⟨Nat.lt_of_lt_of_le a1 c2.size, fun ho => ?_, fun q hq hqb => ?_⟩
  ·rcases c3 b ho with h1 | h1
   ·exact a2 h1
   ·omega
  ·rcases List.mem_append.1 hq with hq | hq
   ·exact a3 q hq hqb
   ·rw [List.mem_singleton.1 hq] at hqb
    exact (hoff b hqb).2.2.2 hb
 ·rintro b (hb | ⟨q, hq, hqb⟩)
  ·rcases c3 b hb with h1 | h1
   ·exact h.new b (Or.inl h1)
   ·omega
  ·rcases List.mem_append.1 hq with hq | hq
   ·exact h.new b (Or.inr ⟨q, hq, hqb⟩)
   ·rw [List.mem_singleton.1 hq] at hqb
    exact (hoff b hqb).1
def WS.nil : WS := ⟨[], [], [], [], [], [], fun _ => .slice none 0 0⟩
theorem WSt.start (w : World) (bw : Nat) (h : w.heap[bw]? = some (.cells #[.slice none 0 0, .slice none 0 0, .slice none 0 0, .slice none 0 0, .slice none 0 0, .slice none 0 0] 33 (0, 0))) : WSt 0 bw w bw WS.nil := by
 have hno : ∀ b, WOwn bw WS.nil.vs b → b = bw := by
  rintro b (rfl | ⟨j, hj, hb⟩)
  ·rfl
  ·cases hb
 refine ⟨⟨h, fun j hj => ?_, fun i j _ _ _ b hb => (by cases hb)⟩, fun p hp => (by cases hp), fun i j p q hi => (by cases hi), fun i v m hv => (by cases hv), fun i v m hv => (by cases hv), fun p hp => (by cases hp), ?_, ?_, fun l hl => (by cases hl), fun m hm => (by cases hm)⟩
 ·rcases j with _ | _ | _ | _ | _ | j <;> exact World.ownsRow_nil _ _ _ _
 ·rintro b ⟨v, hv | hv, _⟩
  ·cases hv
  ·cases hv
 ·rintro b (hb | ⟨p, hp, _⟩)
  ·rw [hno b hb]; exact Nat.le_refl _
  ·cases hp
theorem src_pair (W : World) (b : Nat) (x y : Value) (hx : x.oneCell' = true) (hy : y.oneCell' = true) (h : W.heap[b]? = some (.cells #[x, y] 47 (0, 0))) : Src Tryz.prog 2 26 (.slice (some ⟨b, 0, none⟩) 1 1) 1 [x, y] W :=
 Src.ofSlice W Tryz.underlying26 _ _ _ _ rfl (fun j u hj => by rw [Addr.add_lit, Nat.zero_add, Lib.cell_of_heap h]; simpa using hj) (by intro v hv; simp at hv; rcases hv with rfl | rfl <;> assumption)
set_option maxHeartbeats 2000000 in
set_option maxRecDepth 100000 in
theorem step_new {M B0 : Nat} {w : World} {bw : Nat} {S : WS} (h : WSt M B0 w bw S) (hB : B0 ≤ w.heap.size) (hpl : S.ps.length ≤ 4294967296) (P A B : Int) (la sa : Option Addr) (ln lc sn sc : Nat) :
  Calls Tryz.prog 7 #[.pointer (some ⟨bw, 0, none⟩), .agg #[.int .i64 1, .int .i64 P, .int .i64 A, .int .i64 B, .slice la ln lc, .slice sa sn sc]] w fun e' w' =>
   e' = .returned (.bool true) ∧ Kept (fun b => B0 ≤ b) w w' ∧ ∃ S', WSt M B0 w' bw S' ∧ (S'.ps.length = S.ps.length ∨ S'.ps.length = S.ps.length + 1) ∧ S'.pks = S.pks ∧ S'.ns = S.ns ∧ S'.ts = S.ts ∧ S'.ms0 = S.ms0 ∧ S'.ms1 = S.ms1 ∧ (newOk A B = true → S'.ps.length = S.ps.length + 1) := by
 obtain ⟨W, hWe⟩ : ∃ W, W = w.alloc (.cells #[.int .i64 1, .int .i64 P, .int .i64 A, .int .i64 B, .slice la ln lc, .slice sa sn sc] 36) := ⟨_, rfl⟩
 have hW : Kept (fun _ => False) w W := by rw [hWe]; exact (Kept.refl _ w).alloc _
 have hb : W.heap[w.heap.size]? = some (.cells #[.int .i64 1, .int .i64 P, .int .i64 A, .int .i64 B, .slice la ln lc, .slice sa sn sc] 36 (0, 0)) := by rw [hWe]; exact heap_alloc_new w _
 have hz := lt_of_heap hb
 have q0 : W.cell? ⟨w.heap.size, 0, none⟩ = some (.int .i64 1) := by rw [Lib.cell_of_heap hb]; rfl
 have q2 : W.cell? ⟨w.heap.size, 2, none⟩ = some (.int .i64 A) := by rw [Lib.cell_of_heap hb]; rfl
 have q3 : W.cell? ⟨w.heap.size, 3, none⟩ = some (.int .i64 B) := by rw [Lib.cell_of_heap hb]; rfl
 have hnum := lnum_any
 cases hok : newOk A B with
 | false =>
  have h1 := new_bad A B W hok
  have h2 := rnew_bad A B W hok
  have HE : Hid (Kept (fun b => B0 ≤ b) w W ∧ ∃ S', WSt M B0 W bw S' ∧ (S'.ps.length = S.ps.length ∨ S'.ps.length = S.ps.length + 1) ∧ S'.pks = S.pks ∧ S'.ns = S.ns ∧ S'.ts = S.ts ∧ S'.ms0 = S.ms0 ∧ S'.ms1 = S.ms1 ∧ (false = true → S'.ps.length = S.ps.length + 1)) := ⟨hW.mono (fun _ _ h => h.elim), S, h.quiet hW, Or.inl rfl, rfl, rfl, rfl, rfl, rfl, fun h => by cases h⟩
  clear hok hb h hW
  go_enter Tryz.func7, Tryz.ntmps7
  go_upto_region 1 with fail
  rw [← hWe]
  clear hWe
  go_wp2_with fail
  refine h1.mono ?_
  rintro e1 w1 ⟨rfl, hw1⟩
  rw [hw1]
  clear h1 hw1
  go_wp2_with fail
  refine h2.mono ?_
  rintro e2 w2 ⟨rfl, hw2⟩
  rw [hw2]
  clear h2 hw2
  go_wp2_with (go_at_call 11; refine (hnum _ _).mono ?_; rintro e3 w4 ⟨rfl, rfl⟩)
  go_ret
  exact ⟨rfl, HE.out⟩
 | true =>
  have hok2 : 1 ≤ B ∧ B ≤ 8 ∧ 0 ≤ A ∧ A < B := by simpa [newOk] using hok
  obtain ⟨peer, rfl⟩ : ∃ peer : Nat, A = peer := ⟨A.toNat, by omega⟩
  obtain ⟨peers, rfl⟩ : ∃ peers : Nat, B = peers := ⟨B.toNat, by omega⟩
  have hp1 : 1 ≤ peers := by omega
  have hp2 : peers ≤ 8 := by omega
  have hp3 : peer < peers := by omega
  have h1 := new_pm peer peers W hp1 hp2 hp3
  have HW : Hid (WSt M B0 W bw S ∧ Kept (fun _ => False) w W) := ⟨h.quiet hW, hW⟩
  clear hok hok2 h hW
  go_enter Tryz.func7, Tryz.ntmps7
  go_upto_region 1 with fail
  rw [← hWe]
  clear hWe
  go_wp2_with fail
  refine h1.mono ?_
  rintro e1 w1 ⟨bx, F, rfl, hX, hF, k1⟩
  have h2 := rnew_any peer peers w1 hp1 hp2 hp3
  replace q2 := k1.cell' q2 (fun h => h)
  replace q3 := k1.cell' q3 (fun h => h)
  have z1 : w.heap.size < w1.heap.size := World.block_lt_of_cell? w1 _ q2
  have HX : Hid (PM w1 bx (newPr peer peers) F ∧ (∀ k, F k → W.heap.size ≤ k) ∧ Kept (fun _ => False) W w1) := ⟨hX, hF, k1⟩
  clear h1 hX hF k1 q0 hb hz
  go_wp2_with fail
  refine h2.mono ?_
  rintro e2 w2 ⟨by_, bo, rfl, hR, k2⟩
  have HY : Hid (RM w2 by_ (newSt peer peers) (fun k => w1.heap.size ≤ k ∧ k < w2.heap.size) ∧ Kept (fun _ => False) w1 w2) := ⟨⟨⟨_, _, _, _, hR⟩, fun b hb => hb.2⟩, k2⟩
  clear h2 hR k2 q2 q3 z1
  have hfin : Hid (∃ a0 c0 v' w3, w2.cell? ⟨bw, 0, none⟩ = some (.slice a0 S.ps.length c0) ∧ bw < w2.heap.size ∧ (∀ ty, (Builtin.append_ #[26, 26] ty #[.slice a0 S.ps.length c0, .slice (some ⟨w2.heap.size, 0, none⟩) 1 1]).run Tryz.prog (w2.alloc (.cells #[.pointer (some ⟨bx, 0, none⟩), .pointer (some ⟨by_, 0, none⟩)] 47)) = .ok v' w3) ∧ (∃ a n c, v' = .slice a n c) ∧ (∃ u, w3.cell? ⟨bw, 0, none⟩ = some u) ∧ bw < w3.heap.size ∧ (∀ j, w3.frozen? ⟨bw, j, none⟩ = false) ∧
    Kept (fun b => B0 ≤ b) w (w3.setCell ⟨bw, 0, none⟩ v') ∧ ∃ S', WSt M B0 (w3.setCell ⟨bw, 0, none⟩ v') bw S' ∧ (S'.ps.length = S.ps.length ∨ S'.ps.length = S.ps.length + 1) ∧ S'.pks = S.pks ∧ S'.ns = S.ns ∧ S'.ts = S.ts ∧ S'.ms0 = S.ms0 ∧ S'.ms1 = S.ms1 ∧ (true = true → S'.ps.length = S.ps.length + 1)) := by
   obtain ⟨G, hW⟩ := HW.out
   obtain ⟨hX, hF, k1⟩ := HX.out
   obtain ⟨hY, k2⟩ := HY.out
   have k3 : Kept (fun _ => False) w2 (w2.alloc (.cells #[.pointer (some ⟨bx, 0, none⟩), .pointer (some ⟨by_, 0, none⟩)] 47)) := (Kept.refl _ _).alloc _
   have kA := (k1.trans' k2).trans' k3
   have GA := G.quiet kA
   have GG := G.quiet (k1.trans' k2)
   obtain ⟨a0, c0, e0, _, _⟩ := own_slice (GA.core.rows 0 (by decide))
   have e0 : S.vs 0 = .slice a0 S.ps.length c0 := e0
   have cc := GG.core.cells.1
   rw [e0] at cc
   obtain ⟨i0, hi0, hz0, hzs, hzb⟩ := info_parts info_pair
   have hrow : (w2.alloc (.cells #[.pointer (some ⟨bx, 0, none⟩), .pointer (some ⟨by_, 0, none⟩)] 47)).ownsRow 0 47 2 (S.vs 0) S.ps.length (ppCells S.ps) := GA.core.rows 0 (by decide)
   obtain ⟨v', w3, hr, hown', hkp, hnn⟩ := append_strong Tryz.prog _ 26 26 47 i0 _ 2 16 Tryz.underlying26 hi0 hz0 hzs hzb rfl (by decide) (S.vs 0) S.ps.length _ hrow _ 1 _ (src_pair _ w2.heap.size _ _ rfl rfl (heap_alloc_new w2 _)) (by decide) (by unfold maxLen; omega) (by omega)
   have hWz : B0 ≤ W.heap.size := Nat.le_trans hB hW.size
   obtain ⟨G3, K3⟩ := GA.addPair (Nat.le_trans hWz kA.size) ⟨bx, by_, peers, newPr peer peers, newSt peer peers, F, fun k => w1.heap.size ≤ k ∧ k < w2.heap.size⟩
    ⟨hX.quiet (k2.trans' k3), hY.quiet k3, (two_new peer peers hp1 hp2 hp3).more (Nat.zero_le _), fun b hb hg => by have := hX.lt b hb; have := hg.1; omega⟩
    (fun b hb => by
     have hbz : W.heap.size ≤ b := by
      rcases hb with hb | hb
      ·exact hF b hb
      ·exact Nat.le_trans k1.size hb.1
     exact ⟨Nat.le_trans hWz hbz, G.fresh hbz⟩) v' hkp hown' hnn
   have hbk := hkp.heap GA.core.block (own_ne hrow GA.core.block (by decide))
   obtain ⟨a2, c2, e2, _, _⟩ := own_slice hown'
   rw [e0] at hr
   refine ⟨a0, c0, v', w3, cc, lt_of_heap GG.core.block, hr, ⟨a2, _, c2, e2⟩, ⟨_, by rw [Lib.cell_of_heap hbk]; rfl⟩, lt_of_heap hbk, Lib.frozen_of_heap hbk, ?_, _, G3, ?_, rfl, rfl, rfl, rfl, rfl, fun _ => ?_⟩
   ·exact ((hW.trans' kA).mono (fun _ _ h => h.elim)).trans K3 (fun b hb ho => G.new b (Or.inl ho))
   ·right; show (S.ps ++ [_]).length = _; simp
   ·show (S.ps ++ [_]).length = _; simp
  obtain ⟨a0, c0, v', w3, cc, bz, hr, ⟨a2, n2, c2, rfl⟩, ⟨u, hu⟩, z3, f3, K3, G3⟩ := hfin.out
  have HE : Hid _ := And.intro K3 G3
  clear hfin HW HX HY K3 G3 hp1 hp2 hp3
  go_wp2_with (first | (go_at_call 11; refine (hnum _ _).mono ?_; rintro e3 w4 ⟨rfl, rfl⟩) | (at_builtin; refine Lib.wpList_append_run _ rfl _ _ _ _ rfl _ _ rfl rfl _ _ (hr _) ?_))
  go_ret
  exact ⟨rfl, HE.out⟩
end Go.Proofs.YtgfafbanahiigaaGreat
