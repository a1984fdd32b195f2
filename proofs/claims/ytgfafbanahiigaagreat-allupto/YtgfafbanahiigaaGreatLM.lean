import Derived.Deep.CutBlock
import Derived.Test.YtgfafbanahiigaaGreatRK
import Derived.Test.YtgfafbanahiigaaGreatLH
import Derived.Test.YtgfafbanahiigaaGreatLI
import Derived.Test.YtgfafbanahiigaaGreatNH
import Derived.Test.YtgfafbanahiigaaGreatNG
import Derived.Test.YtgfafbanahiigaaGreatMB
import Derived.Test.YtgfafbanahiigaaGreatHF
import Derived.Test.YtgfafbanahiigaaGreatRC
set_option linter.unusedVariables false
set_option linter.unusedSimpArgs false
namespace Go.Proofs.YtgfafbanahiigaaGreat
open Go.RowKit Go.Chorus
theorem info_strs : (Tryz.prog.info? 27).map (fun i => (i.zero, i.size, i.bytes)) = some (some (.slice none 0 0), 1, 24) := by kernel_rfl
set_option maxHeartbeats 1000000 in
set_option maxRecDepth 100000 in
theorem lsameT_true (l : List Value) (hs : ∀ u ∈ l, ∃ S : ByteArray, u = .string S) (u v : Value) (w : World) (hu : w.ownsRow 0 9 1 u l.length l) (hv : w.ownsRow 0 9 1 v l.length l) (hl : l.length ≤ 4294967296) :
  Calls Tryz.prog 38 #[u, v] w fun e' w' => e' = .returned (.bool true) ∧ Kept (fun _ => False) w w' := by
 obtain ⟨a, cp, rfl, _, _, ha⟩ := own_cells hu
 obtain ⟨b, cq, rfl, _, _, hb⟩ := own_cells hv
 clear hu hv
 go_enter Tryz.func38, Tryz.ntmps38
 go_wp2
 go_loopw [5] (fun i wr => ∃ k : Nat, k ≤ l.length ∧ i = .int .i64 k ∧ Kept (fun _ => False) w wr) (fun i _ => l.length - (intOf i).toNat)
 case atStart => exact ⟨0, Nat.zero_le _, rfl, Kept.refl _ _⟩
 case round =>
  obtain ⟨k, hk, rfl, hkp⟩ := hrel
  by_cases hlt : k < l.length
  ·have hlt2 : (k : Int) < (l.length : Int) := by omega
   obtain ⟨n, hn⟩ : ∃ n, l[k]? = some n := ⟨_, List.getElem?_eq_getElem hlt⟩
   obtain ⟨S, rfl⟩ := hs n (List.mem_of_getElem? hn)
   obtain ⟨g, rfl, g0⟩ := ha.resolve_left (by omega)
   obtain ⟨g', rfl, g1⟩ := hb.resolve_left (by omega)
   replace g0 := hkp.cell' (g0 k _ hn) (fun h => h)
   replace g1 := hkp.cell' (g1 k _ hn) (fun h => h)
   have z0 : g < wr.heap.size := World.block_lt_of_cell? wr _ g0
   have z1 : g' < wr.heap.size := World.block_lt_of_cell? wr _ g1
   have HK : Hid (Kept (fun _ => False) w wr) := hkp
   clear ha hb hn hkp hs
   go_wp2
   go_quiet (fail)
   go_wp2
   go_roundw
   case rel => exact ⟨k + 1, by omega, by go_num, HK.out.drewN _⟩
   case measure => simp [intOf]; omega
  ·clear ha hb
   go_wp2
   go_ret
   exact ⟨rfl, hkp⟩
set_option maxHeartbeats 2000000 in
set_option maxRecDepth 100000 in
theorem ownTexts_any {M B0 : Nat} {w0 : World} {bw : Nat} {S : WS} (h0 : WSt M B0 w0 bw S) (hB0 : B0 ≤ w0.heap.size) (v : Value) (n : Nat) (xs : List Value) (hown0 : w0.ownsRow 0 9 1 v n xs) (hn : n ≤ 4294967000) (hoff : ∀ b, v.ownBlock = some b → ¬ WOwn bw S.vs b ∧ (∀ p ∈ S.ps, ¬ (p.F b ∨ p.G b)) ∧ ¬ LB S b) (hvB : ∀ b, v.ownBlock = some b → B0 ≤ b) (h1 : S.ts.length = S.ms1.length) (hl : S.ts.length ≤ 1073741824) :
  Calls Tryz.prog 39 #[.pointer (some ⟨bw, 0, none⟩), v] w0 fun e' w' => e' = .returned (.tuple #[]) ∧ ∃ S', WSt M B0 w' bw S' ∧ S'.ps = S.ps ∧ S'.pks = S.pks ∧ S'.ns = S.ns ∧ S'.ms0 = S.ms0 ∧ S'.ts.length = S.ts.length + 4 ∧ S'.ms1.length = S.ms1.length + 4 ∧ Kept (fun b => B0 ≤ b) w0 w' := by
 obtain ⟨a4, p4, e4, _, _⟩ := own_slice (h0.core.rows 5 (by decide))
 have e4 : S.vs 5 = .slice a4 S.ms1.length p4 := e4
 obtain ⟨a2, p2, e2, _, _⟩ := own_slice (h0.core.rows 3 (by decide))
 have e2 : S.vs 3 = .slice a2 S.ts.length p2 := e2
 have hml : S.ms1.length ≤ 1073741824 := by omega
 have hmli : (S.ms1.length : Int) ≤ 1073741824 := by omega
 obtain ⟨a, cp, hve, hcm, hnc⟩ := own_slice hown0
 subst hve
 have cc := h0.core.cells.2.2.2.2.2
 rw [e4] at cc
 have bz0 := lt_of_heap h0.core.block
 have htx := ltext_any S.ms1.length w0 (by omega)
 obtain ⟨T, hT⟩ : ∃ T : ByteArray, (⟨(markB (S.ms1.length : Nat)).toArray⟩ : ByteArray) = T := ⟨_, rfl⟩
 rw [hT] at htx
 have HW0 : Hid (WSt M B0 w0 bw S) := h0
 have HT : Hid ((⟨(markB (S.ms1.length : Nat)).toArray⟩ : ByteArray) = T) := hT
 clear h0 hT
 go_enter Tryz.func39, Tryz.ntmps39
 go_wp2_with fail
 refine htx.mono ?_
 rintro e9 w ⟨rfl, hk0⟩
 have h := HW0.out.quiet hk0
 have hown := ownsRow_kept hown0 hk0 (fun _ _ h => h)
 have hB := Nat.le_trans hB0 hk0.size
 have HK0 : Hid (Kept (fun _ => False) w0 w) := hk0
 obtain ⟨c0, c1, c2, c3, c4, c5⟩ := h.core.cells
 rw [e4] at c5
 have bz := lt_of_heap h.core.block
 obtain ⟨m, hm⟩ : ∃ m : Int, ((S.ms1.length : Nat) : Int) = m := ⟨_, rfl⟩
 have HM : Hid (((S.ms1.length : Nat) : Int) = m) := hm
 have hm1 : 0 ≤ m := by omega
 have hm2 : m ≤ 1073741824 := by omega
 have HW : Hid (WSt M B0 w bw S) := h
 have HL : Hid (S.ts.length = S.ms1.length) := h1
 have HE : Hid (S.vs 5 = .slice a4 S.ms1.length p4 ∧ S.vs 3 = .slice a2 S.ts.length p2) := ⟨e4, e2⟩
 have HOFF : Hid (∀ b, ((Value.slice a n cp).ownBlock = some b ∨ w.heap.size ≤ b) → ¬ WOwn bw S.vs b ∧ (∀ p ∈ S.ps, ¬ (p.F b ∨ p.G b)) ∧ ¬ LB S b) := fun b hb => by
  rcases hb with hb | hb
  ·exact hoff b hb
  ·exact h.fresh hb
 clear e4 e2 h h1 hoff hown0 hk0 htx cc bz0
 go_wp2_with fail
 go_loopw [6] (fun i wr => ∃ k : Nat, k ≤ n ∧ i = .int .i64 k ∧ Hid (wr.ownsRow 0 9 1 (.slice a n cp) n (List.replicate k (.string T) ++ xs.drop k) ∧ Kept (fun b => (Value.slice a n cp).ownBlock = some b) w wr)) (fun i _ => n - (intOf i).toNat)
 case atStart => exact ⟨0, Nat.zero_le _, rfl, hown, Kept.refl _ _⟩
 case round =>
  obtain ⟨k, hk, rfl, HR⟩ := hrel
  obtain ⟨R1, R2⟩ := HR.out
  by_cases hlt : k < n
  ·have hlt2 : (k : Int) < (n : Int) := by omega
   obtain ⟨g, rfl⟩ : ∃ g, a = some ⟨g, 0, none⟩ := by
    rcases R1.2 with ⟨e1, h0⟩ | ⟨g, cap, cur, e1, _⟩
    ·omega
    ·injection e1 with x1; exact ⟨g, x1⟩
   have R3 := own_set R1 k hlt (.string T)
   have hx0 : ∃ u, wr.cell? ⟨g, k, none⟩ = some u := by
    obtain ⟨a', cp', e1, _, _, f⟩ := own_cells R1
    obtain ⟨g', x1, hg⟩ := f.resolve_left (by omega)
    injection e1 with y1 y2 y3
    rw [← y1] at x1
    injection x1 with x1
    injection x1 with x1
    subst x1
    have hlen := R1.1
    exact ⟨_, hg k _ (List.getElem?_eq_getElem (by omega))⟩
   obtain ⟨u, hu⟩ := hx0
   have gz : g < wr.heap.size := World.block_lt_of_cell? wr _ hu
   have gf : wr.frozen? ⟨g, k, none⟩ = false := by
    rcases R1.2 with ⟨e1, h0⟩ | ⟨g', cap, cur, e1, _, hg, _⟩
    ·omega
    ·injection e1 with x1
     injection x1 with x1
     injection x1 with x1
     subst x1
     exact Lib.frozen_of_heap hg k
   have HR2 : Hid ((wr.setCell ⟨g, k, none⟩ (.string T)).ownsRow 0 9 1 (.slice (some ⟨g, 0, none⟩) n cp) n (List.replicate (k + 1) (.string T) ++ xs.drop (k + 1)) ∧ Kept (fun b => (Value.slice (some ⟨g, 0, none⟩) n cp).ownBlock = some b) w (wr.setCell ⟨g, k, none⟩ (.string T))) := by
    refine ⟨?_, R2.setCell (p := ⟨g, k, none⟩) (fun _ => rfl) _⟩
    have e : (List.replicate k (Value.string T) ++ xs.drop k).set k (.string T) = List.replicate (k + 1) (.string T) ++ xs.drop (k + 1) := by
     have hxl := hown.1
     rw [List.set_append_right _ _ (by simp), List.length_replicate, Nat.sub_self, List.drop_eq_getElem_cons (by omega), List.set_cons_zero, List.replicate_succ', List.append_assoc]
     rfl
    rw [← e]; exact R3
   clear R1 R2 R3 HR
   go_wp2
   go_roundw
   case rel => exact ⟨k + 1, by omega, by go_num, HR2⟩
   case measure => simp [intOf]; omega
  ·have hlt2 : ¬ (k : Int) < (n : Int) := by omega
   obtain rfl : k = n := by omega
   have hxl := hown.1
   rw [List.drop_eq_nil_of_le (by omega), List.append_nil] at R1
   obtain ⟨i0, hi0, hz0, hzs, hzb⟩ := info_parts info_str
   obtain ⟨u, hu⟩ : ∃ u : Value, .string T = u := ⟨_, rfl⟩
   rw [hu] at R1
   have ho1 : ∀ v ∈ [u], v.oneCell' = true := by intro v hv; simp at hv; subst hv; rw [← hu]; rfl
   have ho2 : ∀ v ∈ [u, u], v.oneCell' = true := by intro v hv; simp at hv; subst hv; rw [← hu]; rfl
   have ho3 : ∀ v ∈ [u, u, u], v.oneCell' = true := by intro v hv; simp at hv; subst hv; rw [← hu]; rfl
   obtain ⟨W1, hW1⟩ : ∃ W, W = wr.alloc (.cells #[u] 9) := ⟨_, rfl⟩
   have kW1 : Kept (fun _ => False) wr W1 := by rw [hW1]; exact (Kept.refl _ _).alloc _
   obtain ⟨v1, w1, r1, A1, B1, C1, D1, E1⟩ := append_fill Tryz.prog W1 27 27 9 i0 _ u 16 Tryz.underlying27 hi0 hz0 hzs hzb rfl (.slice a k cp) k (ownsRow_kept R1 kW1 (fun _ _ h => h)) _ 1 (src_new W1 wr.heap.size 9 27 Tryz.underlying27 [u] (by rw [hW1]; exact heap_alloc_new wr _) ho1) (by decide) (by unfold maxLen; omega) (by omega)
   obtain ⟨W2, hW2⟩ : ∃ W, W = w1.alloc (.cells #[u, u] 9) := ⟨_, rfl⟩
   have kW2 : Kept (fun _ => False) w1 W2 := by rw [hW2]; exact (Kept.refl _ _).alloc _
   obtain ⟨v2, w2, r2, A2, B2, C2, D2, E2⟩ := append_fill Tryz.prog W2 27 27 9 i0 _ u 16 Tryz.underlying27 hi0 hz0 hzs hzb rfl (.slice a k cp) k (ownsRow_kept B1 kW2 (fun _ _ h => h)) _ 2 (src_new W2 w1.heap.size 9 27 Tryz.underlying27 [u, u] (by rw [hW2]; exact heap_alloc_new w1 _) ho2) (by decide) (by unfold maxLen; omega) (by omega)
   obtain ⟨W3, hW3⟩ : ∃ W, W = w2.alloc (.cells #[u, u, u] 9) := ⟨_, rfl⟩
   have kW3 : Kept (fun _ => False) w2 W3 := by rw [hW3]; exact (Kept.refl _ _).alloc _
   obtain ⟨v3, w3, r3, A3, B3, C3, D3, E3⟩ := append_fill Tryz.prog W3 27 27 9 i0 _ u 16 Tryz.underlying27 hi0 hz0 hzs hzb rfl (.slice a k cp) k (ownsRow_kept B2 kW3 (fun _ _ h => h)) _ 3 (src_new W3 w2.heap.size 9 27 Tryz.underlying27 [u, u, u] (by rw [hW3]; exact heap_alloc_new w2 _) ho3) (by decide) (by unfold maxLen; omega) (by omega)
   have f0 := full_of_own B3 (by omega)
   have f1 : FullAt w3 v1 u := C3 _ ((C2 _ ((full_of_own A1 (by omega)).keep kW2 (fun _ _ h => h))).keep kW3 (fun _ _ h => h))
   have f2 : FullAt w3 v2 u := C3 _ ((full_of_own A2 (by omega)).keep kW3 (fun _ _ h => h))
   have f3 : FullAt w3 v3 u := full_of_own A3 (by omega)
   have K1 : Kept (fun b => (Value.slice a k cp).ownBlock = some b) w w1 := (R2.none kW1).trans' D1
   have K2 : Kept (fun b => (Value.slice a k cp).ownBlock = some b) w w2 := (K1.none kW2).trans' D2
   have K3 : Kept (fun b => (Value.slice a k cp).ownBlock = some b) w w3 := (K2.none kW3).trans' D3
   have o1 : ∀ b, v1.ownBlock = some b → ((Value.slice a k cp).ownBlock = some b ∨ w.heap.size ≤ b) ∧ b < w3.heap.size := fun b hb => ⟨(E1 b hb).imp id (fun h => Nat.le_trans (Nat.le_trans R2.size kW1.size) h), Nat.lt_of_lt_of_le (A1.lt b hb).2 (Nat.le_trans (Nat.le_trans kW2.size D2.size) (Nat.le_trans kW3.size D3.size))⟩
   have o2 : ∀ b, v2.ownBlock = some b → ((Value.slice a k cp).ownBlock = some b ∨ w.heap.size ≤ b) ∧ b < w3.heap.size := fun b hb => ⟨(E2 b hb).imp id (fun h => Nat.le_trans (Nat.le_trans K1.size kW2.size) h), Nat.lt_of_lt_of_le (A2.lt b hb).2 (Nat.le_trans kW3.size D3.size)⟩
   have o3 : ∀ b, v3.ownBlock = some b → ((Value.slice a k cp).ownBlock = some b ∨ w.heap.size ≤ b) ∧ b < w3.heap.size := fun b hb => ⟨(E3 b hb).imp id (fun h => Nat.le_trans (Nat.le_trans K2.size kW3.size) h), (A3.lt b hb).2⟩
   obtain ⟨x1, y1, ex1, _, _⟩ := own_slice A1
   obtain ⟨x2, y2, ex2, _, _⟩ := own_slice A2
   obtain ⟨x3, y3, ex3, _, _⟩ := own_slice A3
   have G3 := HW.out.keep K3 (fun b hb => HOFF.out b (Or.inl hb))
   obtain ⟨W4, hW4⟩ : ∃ W, W = w3.alloc (.cells #[.slice a k cp, v1, v2, v3] 27) := ⟨_, rfl⟩
   have kW4 : Kept (fun _ => False) w3 W4 := by rw [hW4]; exact (Kept.refl _ _).alloc _
   have G4 := G3.quiet kW4
   obtain ⟨j0, hj0, jz0, jzs, jzb⟩ := info_parts info_strs
   have how : ∀ v ∈ [Value.slice a k cp, v1, v2, v3], v.oneCell' = true := by intro v hv; simp at hv; rcases hv with rfl | rfl | rfl | rfl <;> first | rfl | (rw [ex1]; rfl) | (rw [ex2]; rfl) | (rw [ex3]; rfl)
   have hrow2 : W4.ownsRow 0 27 1 (S.vs 3) S.ts.length S.ts := G4.core.rows 3 (by decide)
   obtain ⟨nv, w5, r4, A4, D4, E4⟩ := append_strong Tryz.prog W4 29 29 27 j0 _ 1 24 Tryz.underlying29 hj0 jz0 jzs jzb rfl (by decide) (S.vs 3) S.ts.length S.ts hrow2 _ 4 _ (src_new W4 w3.heap.size 27 29 Tryz.underlying29 [.slice a k cp, v1, v2, v3] (by rw [hW4]; exact heap_alloc_new w3 _) how) (by decide) (by unfold maxLen; omega) (by omega)
   have hlb4 : ∀ b, LB { S with ts := S.ts ++ [.slice a k cp, v1, v2, v3], vs := updF S.vs 3 nv } b → b < W4.heap.size ∧ ¬ WOwn bw S.vs b ∧ ∀ p ∈ S.ps, ¬ (p.F b ∨ p.G b) := by
    rintro b ⟨v, hv, hb⟩
    rcases hv with hv | hv
    ·exact G4.offL b ⟨v, Or.inl hv, hb⟩
    ·rcases List.mem_append.1 hv with hv | hv
     ·exact G4.offL b ⟨v, Or.inr hv, hb⟩
     ·simp only [List.mem_cons, List.not_mem_nil, or_false] at hv
      have key : ((Value.slice a k cp).ownBlock = some b ∨ w.heap.size ≤ b) ∧ b < w3.heap.size := by
       rcases hv with rfl | rfl | rfl | rfl
       ·exact ⟨Or.inl hb, (B3.lt b hb).2⟩
       ·exact o1 b hb
       ·exact o2 b hb
       ·exact o3 b hb
      have := HOFF.out b key.1
      exact ⟨Nat.lt_of_lt_of_le key.2 kW4.size, this.1, this.2.1⟩
   obtain ⟨G5, K5⟩ := G4.put (Nat.le_trans hB (Nat.le_trans K3.size kW4.size)) 3 (by decide) nv { S with ts := S.ts ++ [.slice a k cp, v1, v2, v3], vs := updF S.vs 3 nv } D4 (by
     show w5.ownsRow 0 27 1 nv (S.ts ++ [.slice a k cp, v1, v2, v3]).length (S.ts ++ [.slice a k cp, v1, v2, v3])
     rw [List.length_append]; exact A4) E4 rfl rfl (fun i hi hij => by rcases i with _ | _ | _ | _ | _ | i <;> first | rfl | omega) (fun i hi hij => by rcases i with _ | _ | _ | _ | _ | i <;> first | rfl | omega) hlb4 G4.nums (fun i v m' hv hm' => by
     have hil : i < S.ms1.length := (List.getElem?_eq_some_iff.1 hm').1
     have hv' : (S.ts ++ [.slice a k cp, v1, v2, v3])[i]? = some v := hv
     rw [List.getElem?_append_left (by rw [HL.out]; exact hil)] at hv'
     exact G4.txts i v m' hv' hm') G4.packs G4.m1pos
   obtain ⟨w6, hw6⟩ : ∃ x, x = w5.setCell ⟨bw, 3, none⟩ nv := ⟨_, rfl⟩
   rw [← hw6] at G5 K5
   have hofl : ∀ v, (∀ b, v.ownBlock = some b → ((Value.slice a k cp).ownBlock = some b ∨ w.heap.size ≤ b) ∧ b < w3.heap.size) → FullAt w3 v u → FullAt w6 v u := fun v hv hf => (hf.keep kW4 (fun _ _ h => h)).keep K5 (fun b hb ho => by
    have := HOFF.out b (hv b hb).1
    exact this.1 ho)
   have F0 := hofl _ (fun b hb => ⟨Or.inl hb, (B3.lt b hb).2⟩) f0
   have F1 := hofl _ o1 f1
   have F2 := hofl _ o2 f2
   have F3 := hofl _ o3 f3
   have K6 : Kept (fun b => B0 ≤ b) w w6 := (((K3.none kW4).mono (fun b _ hb => hvB b hb)).trans K5 (fun b hb ho => HW.out.new b (Or.inl ho)))
   obtain ⟨S5, hS5⟩ : ∃ S5 : WS, S5 = { S with ts := S.ts ++ [.slice a k cp, v1, v2, v3], vs := updF S.vs 3 nv } := ⟨_, rfl⟩
   rw [← hS5] at G5
   have hv4 : S5.vs 5 = .slice a4 S.ms1.length p4 := by rw [hS5]; exact HE.out.1
   have hm5 : S5.ms1 = S.ms1 := by rw [hS5]
   have hfin : Hid (∀ (w7 : World) (v' : Value), Kept (fun b => (Value.slice a4 S.ms1.length p4).ownBlock = some b) w6 w7 → w7.ownsRow 0 3 1 v' (S.ms1.length + 4) ((S.ms1 ++ [m, m, m, m]).map fun m => Value.int .i64 m) → (∀ b, v'.ownBlock = some b → (Value.slice a4 S.ms1.length p4).ownBlock = some b ∨ w6.heap.size ≤ b) →
     ∃ S', WSt M B0 (w7.setCell ⟨bw, 5, none⟩ v') bw S' ∧ S'.ps = S.ps ∧ S'.pks = S.pks ∧ S'.ns = S.ns ∧ S'.ms0 = S.ms0 ∧ S'.ts.length = S.ts.length + 4 ∧ S'.ms1.length = S.ms1.length + 4 ∧ Kept (fun b => B0 ≤ b) w0 (w7.setCell ⟨bw, 5, none⟩ v')) := by
    intro w7 v' k7 own7 new7
    have hnn : S5.ts = S.ts ++ [.slice a k cp, v1, v2, v3] := by rw [hS5]
    obtain ⟨G7, K7⟩ := G5.put (Nat.le_trans hB K6.size) 5 (by decide) v' { S5 with ms1 := S.ms1 ++ [m, m, m, m], vs := updF S5.vs 5 v' } (by rw [hv4]; exact k7) (by
      show w7.ownsRow 0 3 1 v' (S.ms1 ++ [m, m, m, m]).length _
      rw [List.length_append]; exact own7) (by rw [hv4]; exact new7) rfl rfl (fun i hi hij => by rcases i with _ | _ | _ | _ | _ | i <;> first | rfl | omega) (fun i hi hij => by rcases i with _ | _ | _ | _ | _ | i <;> first | rfl | omega) (fun b hb => G5.offL b hb) G5.nums (fun i x m' hx hm' => by
      have hx' : S5.ts[i]? = some x := hx
      have hm' : (S.ms1 ++ [m, m, m, m])[i]? = some m' := hm'
      by_cases hil : i < S.ms1.length
      ·rw [List.getElem?_append_left hil] at hm'
       exact G5.txts i x m' hx' (by rw [hm5]; exact hm')
      ·rw [List.getElem?_append_right (by omega)] at hm'
       have hil2 : i - S.ms1.length < 4 := by
        have := (List.getElem?_eq_some_iff.1 hm').1
        simpa using this
       have hmm : m' = m := by
        have := List.mem_of_getElem? hm'
        simp at this
        exact this
       rw [hmm]
       rw [hnn, List.getElem?_append_right (by rw [HL.out]; omega), HL.out] at hx'
       rw [← HM.out, HT.out, hu]
       obtain ⟨d, hd⟩ : ∃ d, i - S.ms1.length = d := ⟨_, rfl⟩
       rw [hd] at hx' hil2
       rcases d with _ | _ | _ | _ | d
       ·simp at hx'; subst hx'; exact F0
       ·simp at hx'; subst hx'; exact F1
       ·simp at hx'; subst hx'; exact F2
       ·simp at hx'; subst hx'; exact F3
       ·omega) G5.packs (fun x hx => by
       rcases List.mem_append.1 hx with hx | hx
       ·exact HW.out.m1pos x hx
       ·simp at hx
        omega)
    refine ⟨_, G7, by rw [hS5], by rw [hS5], by rw [hS5], by rw [hS5], ?_, ?_, ((HK0.out.mono (fun _ _ h => h.elim)).trans' K6).trans K7 (fun b hb ho => G5.new b (Or.inl ho))⟩
    ·show S5.ts.length = _
     rw [hnn, List.length_append]; rfl
    ·show (S.ms1 ++ [m, m, m, m]).length = _
     rw [List.length_append]; rfl
   subst ex1 ex2 ex3
   obtain ⟨xn, yn, exn, _, _⟩ := own_slice A4
   subst exn
   rw [HE.out.2] at r4
   have c2r := K3.cell' c3 (fun hb => (HOFF.out bw (Or.inl hb)).1 (Or.inl rfl))
   rw [HE.out.2] at c2r
   have c2W := kW4.cell' c2r (fun h => h)
   have hbk5 := (G4.core.block)
   have hbk5' := D4.heap hbk5 (own_ne hrow2 hbk5 (by decide))
   have f5 : ∀ j, w5.frozen? ⟨bw, j, none⟩ = false := Lib.frozen_of_heap hbk5'
   have z5 := lt_of_heap hbk5'
   have z4 := lt_of_heap hbk5
   have z3 := lt_of_heap G3.core.block
   have c25 : ∃ u2, w5.cell? ⟨bw, 3, none⟩ = some u2 := ⟨_, by rw [Lib.cell_of_heap hbk5']; rfl⟩
   obtain ⟨u25, c25⟩ := c25
   have c46 : w6.cell? ⟨bw, 5, none⟩ = some (.slice a4 S.ms1.length p4) := by
    have := G5.core.cells.2.2.2.2.2
    rw [hv4] at this; exact this
   have hrow6 : w6.ownsRow 0 3 1 (.slice a4 S.ms1.length p4) S.ms1.length (S.ms1.map fun m => Value.int .i64 m) := by
    have := G5.core.rows 5 (by decide)
    rw [hv4] at this
    have h2 : w6.ownsRow 0 3 1 (.slice a4 S.ms1.length p4) S5.ms1.length (S5.ms1.map fun m => Value.int .i64 m) := this
    rw [hm5] at h2; exact h2
   have hblk6 := G5.core.block
   have hob : (Value.slice a4 S.ms1.length p4).ownBlock ≠ some bw := own_ne hrow6 hblk6 (by decide)
   rw [hW1] at r1
   rw [hW2] at r2
   rw [hW3] at r3
   rw [hW4] at r4
   have HW4 : Hid (W4 = w3.alloc (.cells #[.slice a k cp, .slice x1 (k + 1) y1, .slice x2 (k + 2) y2, .slice x3 (k + 3) y3] 27)) := hW4
   have HW6 : Hid (w6 = w5.setCell ⟨bw, 3, none⟩ (.slice xn (S.ts.length + 4) yn)) := hw6
   have c2A : (w3.alloc (.cells #[.slice a k cp, .slice x1 (k + 1) y1, .slice x2 (k + 2) y2, .slice x3 (k + 3) y3] 27)).cell? ⟨bw, 3, none⟩ = some (.slice a2 S.ts.length p2) := by rw [← hW4]; exact c2W
   have UM : Hid (.string T = u) := hu
   subst hu
   have GG : Hid (WSt M B0 w6 bw S5) := G5
   clear R1 R2 HR A1 A2 A3 A4 B1 B2 B3 C1 C2 C3 D1 D2 D3 D4 E1 E2 E3 E4 f0 f1 f2 f3 F0 F1 F2 F3 K1 K2 K3 K5 K6 o1 o2 o3 G3 G4 G5 hrow2 hlb4 hofl how ho1 ho2 ho3 kW1 kW2 kW3 kW4 hW1 hW2 hW3 hW4 hw6 hS5 hbk5 hbk5' hv4 hm5 c2W c0 c1 c2 c3 c4 c5 hi0 hz0 hzs hzb hj0 jz0 jzs jzb hown hxl UM HOFF
   go_upto_region 7 with (at_builtin; refine Lib.wpList_append_run _ rfl _ _ _ _ rfl _ _ rfl rfl _ _ (r1 _) ?_)
   go_upto_region 8 with (at_builtin; refine Lib.wpList_append_run _ rfl _ _ _ _ rfl _ _ rfl rfl _ _ (r2 _) ?_)
   go_upto_region 9 with (at_builtin; refine Lib.wpList_append_run _ rfl _ _ _ _ rfl _ _ rfl rfl _ _ (r3 _) ?_)
   go_upto_region 10 with (at_builtin; refine Lib.wpList_append_run _ rfl _ _ _ _ rfl _ _ rfl rfl _ _ (r4 _) ?_)
   rw [← HW6.out]
   clear HW6 HW4 r1 r2 r3 r4 c2A c2r f5 z5 z4 z3 c25
   refine wp_region_tailB (by kernel_rfl) 15 _ rfl (by kernel_rfl) (fun b => (Value.slice a4 S.ms1.length p4).ownBlock = some b) 11 (fun iz v wx => match iz with
    | 0 => v = .pointer (some ⟨bw, 0, none⟩)
    | 1 => v = .pointer (some ⟨bw, 0, none⟩)
    | 2 => v = .pointer (some ⟨bw, 0, none⟩)
    | 3 => v = .pointer (some ⟨bw, 4, none⟩)
    | 4 => v = .pointer (some ⟨bw, 5, none⟩)
    | 5 => v = .slice a4 S.ms1.length p4
    | 6 => v = .int .i64 m
    | 7 => v = .int .i64 m
    | 8 => v = .int .i64 m
    | 9 => v = .int .i64 m
    | 10 => ∃ vb, v = .slice (some ⟨vb, 0, none⟩) 4 4 ∧ wx.heap[vb]? = some (.cells #[.int .i64 m, .int .i64 m, .int .i64 m, .int .i64 m] 3 (0, 0)) ∧ w6.heap.size ≤ vb
    | 11 => wx.ownsRow 0 3 1 v (S.ms1.length + 4) ((S.ms1 ++ [m, m, m, m]).map fun m => Value.int .i64 m) ∧ (∀ b, v.ownBlock = some b → (Value.slice a4 S.ms1.length p4).ownBlock = some b ∨ w6.heap.size ≤ b)
    | 12 => v = .pointer (some ⟨bw, 0, none⟩)
    | 13 => v = .pointer (some ⟨bw, 4, none⟩)
    | 14 => v = .pointer (some ⟨bw, 5, none⟩)
    | _ => True) ?_ ?_ ?_ ?_ ?_
   ·intro i v wa wb hv hk
    split at hv
    case h_11 =>
     obtain ⟨vb, h1, h2, h3⟩ := hv
     exact ⟨vb, h1, hk.heap h2 (fun h => h), h3⟩
    case h_12 =>
     exact ⟨ownsRow_kept hv.1 hk (fun _ _ h => h), hv.2⟩
    all_goals exact hv
   ·intro i v wa wb hi hv hk
    split at hv
    case h_11 =>
     obtain ⟨vb, h1, h2, h3⟩ := hv
     exact ⟨vb, h1, hk.heap h2 (fun h => by have := (hrow6.lt vb h).2; omega), h3⟩
    case h_12 =>
     exact absurd rfl hi
    all_goals exact hv
   ·intro i o' hin his hi a' wa hk' up
    have hkk : Kept (fun b => (Value.slice a4 S.ms1.length p4).ownBlock = some b) w6 wa := (((Kept.refl (fun _ => False) w6).drew).mono (fun _ _ h => h.elim)).trans hk' (fun _ _ h => h)
    have d4 := hkk.cell' c46 hob
    have hold : ∀ d : Nat, (d = 0 ∨ d = 4) → a'.tmps[d]? = _ := fun d hd => up.old d (by
     intro j oj hj hjd
     exfalso
     rcases j with _ | _ | _ | _ | _ | _ | _ | _ | _ | _ | _ | _ | _ | _ | _ | _ | j <;> simp at hj <;> subst hj <;> simp at hjd <;> omega)
    have o0 := hold 0 (by decide)
    have o4 := hold 4 (by decide)
    simp at o0 o4
    clear hold
    rcases i with _ | _ | _ | _ | _ | _ | _ | _ | _ | _ | _ | _ | _ | _ | _ | i
    all_goals simp only [List.getElem?_cons_zero, List.getElem?_cons_succ, List.getElem?_nil, Option.some.injEq, reduceCtorEq] at hi
    all_goals try subst hi
    ·simp [Oper.wp, go_sem, Act.eval, o0]
     exact ⟨_, rfl, rfl, Kept.refl _ _⟩
    ·simp [Oper.wp, go_sem, Act.eval, o0]
     exact ⟨_, rfl, rfl, Kept.refl _ _⟩
    ·obtain ⟨_, s1, rfl⟩ := up.d 1 57 rfl rfl
     simp [Oper.wp, go_sem, Act.eval, s1]
     exact ⟨_, rfl, rfl, Kept.refl _ _⟩
    ·obtain ⟨_, s2, rfl⟩ := up.d 2 58 rfl rfl
     simp [Oper.wp, go_sem, Act.eval, s2]
     exact ⟨_, rfl, rfl, Kept.refl _ _⟩
    ·obtain ⟨_, s3, rfl⟩ := up.d 3 59 rfl rfl
     simp [Oper.wp, go_sem, Act.eval, s3]
     exact ⟨_, rfl, rfl, Kept.refl _ _⟩
    ·obtain ⟨_, s4, rfl⟩ := up.d 4 60 rfl rfl
     simp [Oper.wp, go_sem, Act.eval, s4, d4]
     exact ⟨_, rfl, rfl, Kept.refl _ _⟩
    ·simp [Oper.wp, go_sem, Act.eval, o4]
     exact ⟨_, rfl, rfl, Kept.refl _ _⟩
    ·simp [Oper.wp, go_sem, Act.eval, o4]
     exact ⟨_, rfl, rfl, Kept.refl _ _⟩
    ·simp [Oper.wp, go_sem, Act.eval, o4]
     exact ⟨_, rfl, rfl, Kept.refl _ _⟩
    ·simp [Oper.wp, go_sem, Act.eval, o4]
     exact ⟨_, rfl, rfl, Kept.refl _ _⟩
    ·obtain ⟨_, s6, rfl⟩ := up.d 6 62 rfl rfl
     obtain ⟨_, s7, rfl⟩ := up.d 7 63 rfl rfl
     obtain ⟨_, s8, rfl⟩ := up.d 8 64 rfl rfl
     obtain ⟨_, s9, rfl⟩ := up.d 9 65 rfl rfl
     simp [Oper.wp, go_sem, Act.eval, s6, s7, s8, s9]
     exact ⟨_, rfl, ⟨_, rfl, heap_alloc_new wa _, hkk.size⟩, (Kept.refl _ _).alloc _⟩
    ·exact absurd rfl his
    ·obtain ⟨_, s0, rfl⟩ := up.d 0 56 rfl rfl
     simp [Oper.wp, go_sem, Act.eval, s0]
     exact ⟨_, rfl, rfl, Kept.refl _ _⟩
    ·obtain ⟨_, s12, rfl⟩ := up.d 12 68 rfl rfl
     simp [Oper.wp, go_sem, Act.eval, s12]
     exact ⟨_, rfl, rfl, Kept.refl _ _⟩
    ·obtain ⟨_, s13, rfl⟩ := up.d 13 69 rfl rfl
     simp [Oper.wp, go_sem, Act.eval, s13]
     exact ⟨_, rfl, rfl, Kept.refl _ _⟩
    ·omega
   ·intro o' _ ho a' wa hk' up
    have hkk : Kept (fun b => (Value.slice a4 S.ms1.length p4).ownBlock = some b) w6 wa := (((Kept.refl (fun _ => False) w6).drew).mono (fun _ _ h => h.elim)).trans hk' (fun _ _ h => h.elim)
    have d4 := hkk.cell' c46 hob
    simp only [List.getElem?_cons_zero, List.getElem?_cons_succ, List.getElem?_nil, Option.some.injEq, reduceCtorEq] at ho
    subst ho
    obtain ⟨_, s5, rfl⟩ := up.d 5 61 rfl rfl
    obtain ⟨v10, s10, hv10⟩ := up.d 10 66 rfl rfl
    obtain ⟨vb, e10, hvb, hvz⟩ := hv10
    subst e10
    obtain ⟨i0, hi0, hz0, hzs, hzb⟩ := info_parts info_int
    have hq : Kept (fun _ => False) w6 wa := ((Kept.refl _ w6).drew).trans' hk'
    have hsrc := src_new wa vb 3 30 Tryz.underlying30 [.int .i64 m, .int .i64 m, .int .i64 m, .int .i64 m] hvb (by intro v hv; simp at hv; subst hv; rfl)
    obtain ⟨v', w', hrun, hown', hkq, hnn⟩ := append_strong Tryz.prog wa 30 30 3 i0 _ 1 8 Tryz.underlying30 hi0 hz0 hzs hzb rfl (by decide) _ _ _ (ownsRow_kept hrow6 hq (fun _ _ h => h)) _ 4 _ hsrc (by decide) (by unfold maxLen; omega) (by omega)
    refine Lib.wp_append_run wa _ _ _ _ rfl (.slice a4 S.ms1.length p4) (.slice (some ⟨vb, 0, none⟩) 4 4) (by simp [Act.eval, s5]) (by simp [Act.eval, s10]) v' w' (hrun _) ?_
    refine ⟨v', rfl, ⟨?_, fun b hb => ?_⟩, hkq⟩
    ·rw [List.map_append]; exact hown'
    ·rcases hnn b hb with h1 | h1
     ·exact Or.inl h1
     ·exact Or.inr (Nat.le_trans hq.size h1)
   ·intro vals wz hk hvv
    obtain ⟨h11, h11b⟩ := hvv 11 (by decide)
    have h14 : vals 14 = _ := hvv 14 (by decide)
    obtain ⟨v', hv'⟩ : ∃ v', vals 11 = v' := ⟨_, rfl⟩
    rw [hv'] at h11 h11b
    obtain ⟨a7, p7, ex7, _, _⟩ := own_slice h11
    subst ex7
    have hkz : Kept (fun b => (Value.slice a4 S.ms1.length p4).ownBlock = some b) w6 wz := (((Kept.refl (fun _ => False) w6).drew).mono (fun _ _ h => h.elim)).trans hk (fun _ _ h => h)
    have HF : Hid _ := hfin.out wz (.slice a7 (S.ms1.length + 4) p7) hkz h11 h11b
    have hbz := hkz.heap hblk6 hob
    have zz := lt_of_heap hbz
    have zf : ∀ j, wz.frozen? ⟨bw, j, none⟩ = false := Lib.frozen_of_heap hbz
    have zc := hkz.cell' c46 hob
    clear hvv h11 h11b hk hkz hbz hfin hrow6 hblk6 GG HW
    simp only [List.take_succ_cons, List.take_zero, List.drop_succ_cons, List.drop_zero, putAll, Act.put, h14, hv']
    simp only [Nat.reduceAdd, Nat.zero_add, List.setIfInBounds_toArray, List.set_cons_succ, List.set_cons_zero]
    go_wp2_with fail
    go_end0
    exact ⟨rfl, HF.out⟩
def intsV (ns : List Int) : List Value := ns.map fun n => .int .i64 n
theorem src_ints {w : World} {a : Option Addr} {ns : List Int} (h : IntsG w a ns) (c : Nat) : Src Tryz.prog 1 30 (.slice a ns.length c) ns.length (intsV ns) w := by
 cases ns with
 | nil =>
  cases a with
  | none => exact Src.ofNil w Tryz.underlying30 c
  | some ad => exact Src.ofSlice w Tryz.underlying30 ad 0 c [] (by simp) (fun j u hj => by simp at hj) (fun u hu => by cases hu)
 | cons l r =>
  obtain ⟨g, off, rfl, _⟩ := h 0 l rfl
  exact Src.ofSlice w Tryz.underlying30 _ _ _ _ (by simp [intsV]) (fun j u hj => by
   have hj' : ((l :: r).map fun n => Value.int .i64 n)[j]? = some u := hj
   rw [List.getElem?_map] at hj'
   cases hx : (l :: r)[j]? with
   | none => rw [hx] at hj'; cases hj'
   | some x =>
    rw [hx] at hj'
    obtain ⟨g', off', e, hc⟩ := h j x hx
    cases e
    rw [Addr.add_lit, hc, ← hj']
    rfl) (fun u hu => by
   have hu' : u ∈ (l :: r).map fun n => Value.int .i64 n := hu
   obtain ⟨x, _, rfl⟩ := List.mem_map.1 hu'
   rfl)
theorem RefAt.line {w : World} {F : Nat → Prop} {bp : Nat} {s : RSt} {rv : Value} {bo : Nat} {vs : List Value} {hv : Value} (h : RefAt w F bp s rv bo vs hv) {i : Nat} {l : List OpeV} (hl : s.ops[i]? = some l) :
  ∃ a cp, w.cell? ⟨bo, i, none⟩ = some (.slice a l.length cp) ∧ ∀ (k : Nat) (o : OpeV), l[k]? = some o → ∃ g, a = some ⟨g, 0, none⟩ ∧ w.cell? ⟨g, k * 9 + 3, none⟩ = some (.int .i64 (o.1.clock : Nat)) ∧ w.cell? ⟨g, k * 9 + 8, none⟩ = some (.string ⟨o.1.packet.toArray⟩) := by
 have hil := (List.getElem?_eq_some_iff.1 hl).1
 obtain ⟨v, hvi⟩ : ∃ v, vs[i]? = some v := ⟨_, List.getElem?_eq_getElem (by rw [h.opsN]; exact hil)⟩
 obtain ⟨a, cp, rfl, _, _, ha0, ha1⟩ := rops_of_own (h.opsAt i v l hvi hl)
 refine ⟨a, cp, by rw [Lib.cell_of_heap h.opsB]; simpa using hvi, fun k o hk => ?_⟩
 cases a with
 | none => rw [ha0 rfl] at hk; simp at hk
 | some ad =>
  obtain ⟨g, rfl, hh⟩ := ha1 ad rfl
  exact ⟨g, rfl, hh k o hk 3 _ rfl, hh k o hk 8 _ rfl⟩
structure RRest (w wr : World) (log : List (List Ope)) (qs : List Nat) (T N gn cn : Nat) (pv : Value) (nx : List Nat) (os : List Ope) : Prop where
 nlen : nx.length = N
 nrow : wr.ownsRow 0 3 1 (.slice (some ⟨gn, 0, none⟩) N cn) N (intsV (nx.map fun n : Nat => (n : Int)))
 nb : ∀ n ∈ nx, n ≤ 9223372036854775807
 row : wr.ownsRow 0 9 1 pv os.length (strsOf os)
 merged : ∀ r, Merged (above nx log) r → Merged (above qs log) (os ++ r)
 tot : os.length + total (above nx log) = T
 pnew : ∀ b, pv.ownBlock = some b → w.heap.size ≤ b
 kept : Kept (fun _ => False) w wr
theorem RRest.quiet {w wr wz : World} {log : List (List Ope)} {qs : List Nat} {T N gn cn : Nat} {pv : Value} {nx : List Nat} {os : List Ope} (h : RRest w wr log qs T N gn cn pv nx os) (k : Kept (fun _ => False) wr wz) : RRest w wz log qs T N gn cn pv nx os :=
 ⟨h.nlen, ownsRow_kept h.nrow k (fun _ _ h => h), h.nb, ownsRow_kept h.row k (fun _ _ h => h), h.merged, h.tot, h.pnew, h.kept.trans' k⟩
theorem RRest.next {w wr : World} {log : List (List Ope)} {qs : List Nat} {T N gn cn : Nat} {pv : Value} {nx : List Nat} {os : List Ope} (h : RRest w wr log qs T N gn cn pv nx os) {i : Nat} (hi : i < N) : wr.cell? ⟨gn, i, none⟩ = some (.int .i64 (nx.getD i 0 : Nat)) ∧ nx.getD i 0 ≤ 9223372036854775807 := by
 have hil : i < nx.length := by rw [h.nlen]; exact hi
 have e : nx.getD i 0 = nx[i] := by rw [List.getD_eq_getElem?_getD, List.getElem?_eq_getElem hil]; rfl
 refine ⟨?_, by rw [e]; exact h.nb _ (List.getElem_mem _)⟩
 obtain ⟨a, cp, e1, _, _, f⟩ := own_cells h.nrow
 obtain ⟨g, x1, hg⟩ := f.resolve_left (by omega)
 injection e1 with y1 y2 y3
 rw [← y1] at x1
 cases x1
 refine hg i _ ?_
 rw [e]
 simp [intsV, List.getElem?_map, List.getElem?_eq_getElem hil]
def RRestPost (w : World) (qs : List Nat) (log : List (List Ope)) (e' : Ending) (w' : World) : Prop := ∃ pv, e' = .returned (.tuple #[pv, .int .i64 0]) ∧ ∃ ops, Merged (above qs log) ops ∧ w'.ownsRow 0 9 1 pv ops.length (strsOf ops) ∧ Kept (fun _ => False) w w' ∧ ∀ b, pv.ownBlock = some b → w.heap.size ≤ b
set_option maxHeartbeats 2000000 in
set_option maxRecDepth 100000 in
theorem rrest_len {w : World} {F : Nat → Prop} {bp : Nat} {t : RSt} (h : RM w bp t F) (a : Option Addr) (n c : Nat) (hn : n ≠ t.ops.length) (hn2 : n ≤ 4294967296) (ht : t.ops.length ≤ 8) :
  Calls Tryz.prog 37 #[.pointer (some ⟨bp, 0, none⟩), .slice a n c] w fun e' w' => e' = .returned (.tuple #[.slice none 0 0, .int .i64 1]) ∧ w' = w := by
 obtain ⟨⟨rv, bo, vs, hv, h⟩, hF⟩ := h
 obtain ⟨c0, c1, c2, c3, c4, c5⟩ := h.cells
 have bz := lt_of_heap h.block
 have hne : ((n : Int) == (t.ops.length : Int)) = false := by rw [beq_eq_false_iff_ne]; omega
 have hne2 : ¬ (n : Int) = (t.ops.length : Int) := by omega
 clear h hF c0 c2 c3 c4 c5
 go_enter Tryz.func37, Tryz.ntmps37
 go_wp2
 go_ret2
 exact ⟨rfl, rfl⟩
set_option maxHeartbeats 2000000 in
set_option maxRecDepth 100000 in
theorem rrest_neg {w : World} {F : Nat → Prop} {bp : Nat} {t : RSt} (h : RM w bp t F) (a : Option Addr) (c : Nat) (ns : List Int) (hs : IntsG w a ns) (hn : ns.length = t.ops.length) (ht : t.ops.length ≤ 8) (hx : ∃ n ∈ ns, n < 0) :
  Calls Tryz.prog 37 #[.pointer (some ⟨bp, 0, none⟩), .slice a ns.length c] w fun e' w' => e' = .returned (.tuple #[.slice none 0 0, .int .i64 1]) ∧ w' = w := by
 obtain ⟨⟨rv, bo, vs, hv, h⟩, hF⟩ := h
 obtain ⟨c0, c1, c2, c3, c4, c5⟩ := h.cells
 have bz := lt_of_heap h.block
 rw [← hn] at c1
 have HX : Hid (∃ n ∈ ns, n < 0) := hx
 clear h hF c0 c2 c3 c4 c5 hx
 go_enter Tryz.func37, Tryz.ntmps37
 go_wp2
 go_loopw [6] (fun i wr => ∃ k : Nat, k ≤ ns.length ∧ i = .int .i64 k ∧ wr = w ∧ Hid (∃ n ∈ ns.drop k, n < 0)) (fun i _ => ns.length - (intOf i).toNat)
 case atStart => exact ⟨0, Nat.zero_le _, rfl, rfl, HX.out⟩
 case round =>
  obtain ⟨k, hk, rfl, hw, hx⟩ := hrel
  subst hw
  have hlt : k < ns.length := by
   obtain ⟨n, h1, _⟩ := hx.out
   have := List.length_pos_of_mem h1
   rw [List.length_drop] at this
   omega
  have hlt2 : (k : Int) < (ns.length : Int) := by omega
  obtain ⟨m, hek⟩ : ∃ m, ns[k]? = some m := ⟨_, List.getElem?_eq_getElem hlt⟩
  obtain ⟨g, off, rfl, c0⟩ := hs k m hek
  have cz := World.block_lt_of_cell? wr _ c0
  by_cases hm : m < 0
  ·have hmd : decide (m < 0) = true := by rw [decide_eq_true_eq]; exact hm
   clear hek hs hx HX
   go_wp2
   go_ret2
   exact ⟨rfl, rfl⟩
  ·have hmd : decide (m < 0) = false := by rw [decide_eq_false_iff_not]; exact hm
   have hx2 : Hid (∃ n ∈ ns.drop (k + 1), n < 0) := by
    obtain ⟨n, h1, h2⟩ := hx.out
    rw [List.drop_eq_getElem_cons hlt, (List.getElem?_eq_some_iff.1 hek).2] at h1
    rcases List.mem_cons.1 h1 with h1 | h1
    ·omega
    ·exact ⟨n, h1, h2⟩
   clear hek hs hx HX
   go_wp2
   go_roundw
   case rel => exact ⟨k + 1, by omega, by go_num, trivial, hx2⟩
   case measure => simp [intOf]; omega
set_option maxHeartbeats 4000000 in
set_option maxRecDepth 100000 in
theorem rrest_any {w : World} {F : Nat → Prop} {bp N M : Nat} {s : Pr} {t : RSt} (h : RM w bp t F) (tw : Two N M s t) (hM : M ≤ 4294967000) (a : Option Addr) (c : Nat) (qs : List Nat) (hs : IntsG w a (qs.map fun n : Nat => (n : Int))) (hn : qs.length = N) (hqb : ∀ n ∈ qs, n ≤ 9223372036854775807) :
  Calls Tryz.prog 37 #[.pointer (some ⟨bp, 0, none⟩), .slice a N c] w (RRestPost w qs s.log) := by
 have ho := tw.opsN
 have h8 := tw.fit.n8
 have h1 := tw.fit.n1
 obtain ⟨⟨rv, bo, vs, hv, h⟩, hF⟩ := h
 obtain ⟨c0, c1, c2, c3, c4, c5⟩ := h.cells
 have bz := lt_of_heap h.block
 have boz := lt_of_heap h.opsB
 rw [ho] at c1 c4
 have HLN : Hid (∀ k, k < N → ∃ (l : List OpeV) (a : Option Addr) (cp : Nat), t.ops[k]? = some l ∧ s.log[k]? = some (l.map Prod.fst) ∧ l.length ≤ M ∧ w.cell? ⟨bo, k, none⟩ = some (.slice a l.length cp) ∧ ∀ (i : Nat) (o : OpeV), l[i]? = some o → ∃ g, a = some ⟨g, 0, none⟩ ∧ w.cell? ⟨g, i * 9 + 3, none⟩ = some (.int .i64 (o.1.clock : Nat)) ∧ w.cell? ⟨g, i * 9 + 8, none⟩ = some (.string ⟨o.1.packet.toArray⟩)) := fun k hk => by
  obtain ⟨l, hl⟩ : ∃ l, t.ops[k]? = some l := ⟨_, List.getElem?_eq_getElem (by rw [ho]; exact hk)⟩
  obtain ⟨a, cp, e1, e2⟩ := h.line hl
  exact ⟨l, a, cp, hl, by rw [← tw.log, List.getElem?_map, hl]; rfl, tw.opsLen l (List.mem_of_getElem? hl), e1, e2⟩
 have hll : s.log.length = N := by rw [← tw.log, List.length_map, ho]
 have hhd : Heads s.log := tw.lp
 obtain ⟨T, hT⟩ : ∃ T, total (above qs s.log) = T := ⟨_, rfl⟩
 have hTM : T ≤ M := by
  have e1 := total_above qs s.log
  have e2 : total s.log = s.known.sum := by
   rw [← tw.known, ← tw.log]
   unfold total RSt.known
   rw [List.map_map]
   congr 1
   exact List.map_congr_left (fun l _ => by simp)
  have e3 := tw.few
  unfold ksize at e3
  omega
 have hnl : (qs.map fun n : Nat => (n : Int)).length = N := by rw [List.length_map, hn]
 have HS : Hid (IntsG w a (qs.map fun n : Nat => (n : Int))) := hs
 have HB : Hid ((∀ n ∈ qs, n ≤ 9223372036854775807) ∧ s.log.length = N ∧ Heads s.log ∧ total (above qs s.log) = T ∧ qs.length = N) := ⟨hqb, hll, hhd, hT, hn⟩
 obtain ⟨i0, hi0, hz0, hzs, hzb⟩ := info_parts info_int
 obtain ⟨W, hW⟩ : ∃ W, W = w.alloc (.cells #[] 3) := ⟨_, rfl⟩
 have kW : Kept (fun _ => False) w W := by rw [hW]; exact (Kept.refl _ _).alloc _
 have hbk : W.heap[w.heap.size]? = some (.cells #[] 3 (0, 0)) := by rw [hW]; exact heap_alloc_new w _
 have hsrc := src_ints (hs.keep kW (fun _ _ _ h => h)) c
 rw [hnl] at hsrc
 obtain ⟨v1, w1, hr1, own1, k1, b1⟩ := append_strong Tryz.prog W 30 30 3 i0 _ 1 8 Tryz.underlying30 hi0 hz0 hzs hzb rfl (by decide) (.slice (some ⟨w.heap.size, 0, none⟩) 0 0) 0 [] ⟨rfl, Or.inr ⟨w.heap.size, 0, #[], rfl, Nat.zero_le _, hbk, Nat.le_refl _, by unfold maxLen; omega, rfl, rfl⟩⟩ _ _ _ hsrc (by omega) (by unfold maxLen; omega) (by omega)
 rw [Nat.zero_add, List.nil_append] at own1
 have hgnew : ∀ b, v1.ownBlock = some b → w.heap.size ≤ b := fun b hb => by
  rcases b1 b hb with h1 | h1
  ·have : w.heap.size = b := by simpa [Value.ownBlock] using h1
   omega
  ·exact Nat.le_trans kW.size h1
 obtain ⟨a1, cn, e1, _, _, f1⟩ := own_cells own1
 obtain ⟨gn, x1, _⟩ := f1.resolve_left (by omega)
 subst x1
 subst e1
 have hgn : w.heap.size ≤ gn := hgnew gn rfl
 have kw1 : Kept (fun _ => False) w w1 := (kW.trans k1 (fun b hb hs => by
  have : w.heap.size = b := by simpa [Value.ownBlock] using hs
  omega))
 have HI : Hid (RRest w w1 s.log qs T N gn cn (.slice none 0 0) qs []) := ⟨hn, own1, hqb, World.ownsRow_nil _ _ _ _, fun r hr => hr, by simpa using hT, fun b hb => by simp [Value.ownBlock] at hb, kw1⟩
 rw [hW] at hr1
 clear h hF c0 c2 c3 c5 hs tw hll hhd hT hqb hn hnl kW hbk hsrc own1 k1 b1 hgnew f1 kw1 hi0 hz0 hzs hzb hW
 go_enter Tryz.func37, Tryz.ntmps37
 go_wp2
 go_loopw [6] (fun i wr => ∃ k : Nat, k ≤ N ∧ i = .int .i64 k ∧ wr = w) (fun i _ => N - (intOf i).toNat)
 case atStart => exact ⟨0, Nat.zero_le _, rfl, rfl⟩
 case round =>
  obtain ⟨k, hk, rfl, hw⟩ := hrel
  subst hw
  by_cases hlt : k < N
  ·have hlt2 : (k : Int) < (N : Int) := by omega
   obtain ⟨m, hek⟩ : ∃ m, qs[k]? = some m := ⟨_, List.getElem?_eq_getElem (by rw [HB.out.2.2.2.2]; exact hlt)⟩
   obtain ⟨g, off, rfl, c0⟩ := HS.out k (m : Int) (by rw [List.getElem?_map, hek]; rfl)
   have cz := World.block_lt_of_cell? wr _ c0
   have hm : ¬ (m : Int) < 0 := by omega
   have hmd : decide ((m : Int) < 0) = false := by rw [decide_eq_false_iff_not]; exact hm
   clear hek hr1
   go_wp2
   go_roundw
   case rel => exact ⟨k + 1, by omega, by go_num, trivial⟩
   case measure => simp [intOf]; omega
  ·have hlt2 : ¬ (k : Int) < (N : Int) := by omega
   have hlt3 : decide ((k : Int) < (N : Int)) = false := by rw [decide_eq_false_iff_not]; exact hlt2
   obtain rfl : k = N := by omega
   obtain ⟨w0, hw0⟩ : ∃ x, x = wr := ⟨_, rfl⟩
   subst hw0
   go_upto_region 9 with (at_builtin; refine Lib.wpList_append_run _ rfl _ _ _ _ rfl _ _ rfl rfl _ _ (hr1 _) ?_)
   clear hr1 hlt hlt2 hlt3 HS
   go_wp2_with fail
   go_loopw [8] (fun pv wo => ∃ nx os, Hid (RRest w0 wo s.log qs T k gn cn pv nx os)) (fun pv _ => T - vlen pv)
   case atStart => exact ⟨_, _, HI.out⟩
   case round =>
    clear HI
    obtain ⟨wo, hwo⟩ : ∃ x, x = wr := ⟨_, rfl⟩
    subst hwo
    obtain ⟨nx, os, HR⟩ := hrel
    obtain ⟨pa, pc, hpe, _, _⟩ := own_slice HR.out.row
    subst hpe
    go_wp2_with fail
    go_loopw [9, 10] (fun bv iv wi => ∃ (i : Nat) (best : Int), i ≤ k ∧ iv = .int .i64 i ∧ bv = .int .i64 best ∧ Kept (fun _ => False) wo wi ∧ Hid (BestUpto nx s.log i best) ∧ best ≤ 9) (fun _ iv _ => k - (intOf iv).toNat)
    case atStart => exact ⟨0, -1, Nat.zero_le _, rfl, rfl, Kept.refl _ _, BestUpto.zero _ _, by decide⟩
    case round =>
     obtain ⟨wi, hwi⟩ : ∃ x, x = wr := ⟨_, rfl⟩
     subst hwi
     obtain ⟨i, best, hik, rfl, rfl, hkI, HBU, hb9⟩ := hrel
     have R := HR.out.quiet hkI
     have d1 := R.kept.cell' c1 (fun h => h)
     have d4 := R.kept.cell' c4 (fun h => h)
     have bpz : bp < wi.heap.size := World.block_lt_of_cell? wi _ d1
     by_cases hlt : i < k
     ·have hlt2 : (i : Int) < (k : Int) := by omega
      obtain ⟨l, la, lc, hl, hlog, hlM, hlc, hlo⟩ := HLN.out i hlt
      obtain ⟨n1, n2⟩ := R.next hlt
      obtain ⟨q, hq⟩ : ∃ q, nx.getD i 0 = q := ⟨_, rfl⟩
      rw [hq] at n1 n2
      have d5 := R.kept.cell' hlc (fun h => h)
      have gz : gn < wi.heap.size := World.block_lt_of_cell? wi _ n1
      have boz2 : bo < wi.heap.size := World.block_lt_of_cell? wi _ d5
      obtain ⟨e1, HE1⟩ : ∃ e : Bool, Hid (e = decide ((l.length : Int) ≤ (q : Int))) := ⟨_, rfl⟩
      have HKI : Hid (Kept (fun _ => False) wo wi) := hkI
      have HRK : Hid (RRest w0 wi s.log qs T k gn cn (.slice pa os.length pc) nx os) := R
      have HQ : Hid (nx.getD i 0 = q) := hq
      have HL : Hid (t.ops[i]? = some l ∧ s.log[i]? = some (l.map Prod.fst) ∧ ∀ (j : Nat) (o : OpeV), l[j]? = some o → ∃ g, la = some ⟨g, 0, none⟩ ∧ w0.cell? ⟨g, j * 9 + 3, none⟩ = some (.int .i64 (o.1.clock : Nat)) ∧ w0.cell? ⟨g, j * 9 + 8, none⟩ = some (.string ⟨o.1.packet.toArray⟩)) := ⟨hl, hlog, hlo⟩
      clear R hkI hq hl hlog hlo hlc
      go_upto_region 14 with fail
      go_cut [52] (fun v wd => v = .bool e1 ∧ Kept (fun _ => False) wi wd)
      case first =>
       refine wp_region_byG (by kernel_rfl) _ rfl (by kernel_rfl) (fun iz v wx => match iz with
        | 0 => v = .slice (some ⟨gn, 0, none⟩) k cn
        | 1 => v = .int .i64 (i : Nat)
        | 2 => v = .pointer (some ⟨gn, i, none⟩)
        | 3 => v = .int .i64 (q : Nat)
        | 4 => v = .pointer (some ⟨bp, 0, none⟩)
        | 5 => v = .pointer (some ⟨bp, 0, none⟩)
        | 6 => v = .pointer (some ⟨bp, 4, none⟩)
        | 7 => v = .slice (some ⟨bo, 0, none⟩) k k
        | 8 => v = .int .i64 (i : Nat)
        | 9 => v = .pointer (some ⟨bo, i, none⟩)
        | 10 => v = .slice la l.length lc
        | 11 => v = .int .i64 (l.length : Nat)
        | 12 => v = .bool e1
        | _ => True) ?_ ?_ ?_
       ·intro i v wa wb hv hk
        split at hv
        all_goals exact hv
       ·intro i o' hi a' wa up
        have hk' := up.kept
        have hkk : Kept (fun _ => False) wi wa := ((Kept.refl _ wi).drew).trans' hk'
        have u1 := hkk.cell' n1 (fun h => h)
        have u4 := hkk.cell' d4 (fun h => h)
        have u5 := hkk.cell' d5 (fun h => h)
        have hold : ∀ d : Nat, (d = 0 ∨ d = 7 ∨ d = 10) → a'.tmps[d]? = _ := fun d hd => up.old d (by
         intro j oj hj hjd
         exfalso
         rcases j with _ | _ | _ | _ | _ | _ | _ | _ | _ | _ | _ | _ | _ | j <;> simp at hj <;> subst hj <;> simp at hjd <;> omega)
        have o0 := hold 0 (by decide)
        have o7 := hold 7 (by decide)
        have o10 := hold 10 (by decide)
        simp at o0 o7 o10
        clear hold
        rcases i with _ | _ | _ | _ | _ | _ | _ | _ | _ | _ | _ | _ | _ | i
        all_goals simp only [List.getElem?_cons_zero, List.getElem?_cons_succ, List.getElem?_nil, Option.some.injEq, reduceCtorEq] at hi
        all_goals try subst hi
        ·left
         refine ⟨by simp [Region.wanted], ?_⟩
         simp [Oper.wp, go_sem, Act.eval, o7]
         exact ⟨_, rfl, rfl, Kept.refl _ _⟩
        ·left
         refine ⟨by simp [Region.wanted], ?_⟩
         simp [Oper.wp, go_sem, Act.eval, o10]
         exact ⟨_, rfl, rfl, Kept.refl _ _⟩
        ·obtain ⟨_, s0, rfl⟩ := up.d 0 40 rfl rfl
         obtain ⟨_, s1, rfl⟩ := up.d 1 41 rfl rfl
         left
         refine ⟨by simp [Region.wanted], ?_⟩
         simp [Oper.wp, go_sem, Act.eval, s0, s1, hlt2, hlt]
         exact ⟨_, rfl, rfl, Kept.refl _ _⟩
        ·obtain ⟨_, s2, rfl⟩ := up.d 2 42 rfl rfl
         left
         refine ⟨by simp [Region.wanted], ?_⟩
         simp [Oper.wp, go_sem, Act.eval, s2, u1]
         exact ⟨_, rfl, rfl, Kept.refl _ _⟩
        ·left
         refine ⟨by simp [Region.wanted], ?_⟩
         simp [Oper.wp, go_sem, Act.eval, o0]
         exact ⟨_, rfl, rfl, Kept.refl _ _⟩
        ·obtain ⟨_, s4, rfl⟩ := up.d 4 44 rfl rfl
         left
         refine ⟨by simp [Region.wanted], ?_⟩
         simp [Oper.wp, go_sem, Act.eval, s4]
         exact ⟨_, rfl, rfl, Kept.refl _ _⟩
        ·obtain ⟨_, s5, rfl⟩ := up.d 5 45 rfl rfl
         left
         refine ⟨by simp [Region.wanted], ?_⟩
         simp [Oper.wp, go_sem, Act.eval, s5]
         exact ⟨_, rfl, rfl, Kept.refl _ _⟩
        ·obtain ⟨_, s6, rfl⟩ := up.d 6 46 rfl rfl
         left
         refine ⟨by simp [Region.wanted], ?_⟩
         simp [Oper.wp, go_sem, Act.eval, s6, u4]
         exact ⟨_, rfl, rfl, Kept.refl _ _⟩
        ·left
         refine ⟨by simp [Region.wanted], ?_⟩
         simp [Oper.wp, go_sem, Act.eval, o10]
         exact ⟨_, rfl, rfl, Kept.refl _ _⟩
        ·obtain ⟨_, s7, rfl⟩ := up.d 7 47 rfl rfl
         obtain ⟨_, s8, rfl⟩ := up.d 8 48 rfl rfl
         left
         refine ⟨by simp [Region.wanted], ?_⟩
         simp [Oper.wp, go_sem, Act.eval, s7, s8, hlt2, hlt]
         exact ⟨_, rfl, rfl, Kept.refl _ _⟩
        ·obtain ⟨_, s9, rfl⟩ := up.d 9 49 rfl rfl
         left
         refine ⟨by simp [Region.wanted], ?_⟩
         simp [Oper.wp, go_sem, Act.eval, s9, u5]
         exact ⟨_, rfl, rfl, Kept.refl _ _⟩
        ·obtain ⟨_, s10, rfl⟩ := up.d 10 50 rfl rfl
         left
         refine ⟨by simp [Region.wanted], ?_⟩
         simp [Oper.wp, go_sem, Act.eval, s10]
         exact ⟨_, rfl, rfl, Kept.refl _ _⟩
        ·obtain ⟨_, s3, rfl⟩ := up.d 3 43 rfl rfl
         obtain ⟨_, s11, rfl⟩ := up.d 11 51 rfl rfl
         left
         refine ⟨by simp [Region.wanted], ?_⟩
         simp [Oper.wp, go_sem, Act.eval, s3, s11]
         exact ⟨_, rfl, by simp [HE1.out], Kept.refl _ _⟩
       ·intro vals wz hk hvv
        have h12 : vals 12 = _ := hvv 12 (by decide)
        have hk0 : Kept (fun _ => False) wi wz := ((Kept.refl _ wi).drew).trans' hk
        clear hvv
        simp only [putAll, Act.put, h12]
        simp only [Nat.reduceAdd, Nat.zero_add, List.setIfInBounds_toArray, List.set_cons_succ, List.set_cons_zero]
        go_wp2_with fail
        go_meet
        exact ⟨rfl, hk0⟩
      case rest =>
      obtain ⟨rfl, kc⟩ := hcut
      have RC := HRK.out.quiet kc
      have HKC : Hid (Kept (fun _ => False) wo wc) := HKI.out.trans' kc
      have x1 := kc.cell' d1 (fun h => h)
      have x4 := kc.cell' d4 (fun h => h)
      have x5 := kc.cell' d5 (fun h => h)
      have y1 := kc.cell' n1 (fun h => h)
      have bpz2 : bp < wc.heap.size := World.block_lt_of_cell? wc _ x1
      have gz2 : gn < wc.heap.size := World.block_lt_of_cell? wc _ y1
      have boz3 : bo < wc.heap.size := World.block_lt_of_cell? wc _ x5
      cases e1 with
      | true =>
       have hle : l.length ≤ q := by
        have := HE1.out
        have := of_decide_eq_true this.symm
        omega
       have HB2 : Hid (BestUpto nx s.log (i + 1) best) := BestUpto.skip HBU.out HL.out.2.1 (by rw [List.length_map, HQ.out]; exact hle)
       clear kc d1 d4 d5 n1
       go_wp2_with fail
       go_roundw
       case rel => exact ⟨i + 1, best, by omega, by go_num, rfl, HKC.out, HB2, hb9⟩
       case measure => simp [intOf]; omega
      | false =>
       have hlq : q < l.length := by
        have := HE1.out
        have := of_decide_eq_false this.symm
        omega
       have hlq2 : (q : Int) < (l.length : Int) := by omega
       obtain ⟨o, hoq⟩ : ∃ o, l[q]? = some o := ⟨_, List.getElem?_eq_getElem hlq⟩
       obtain ⟨lg, rfl, cc, _⟩ := HL.out.2.2 q o hoq
       have x6 := RC.kept.cell' cc (fun h => h)
       have lz : lg < wc.heap.size := World.block_lt_of_cell? wc _ x6
       have HOQ : Hid (s.log[i]? = some (l.map Prod.fst) ∧ (l.map Prod.fst)[nx.getD i 0]? = some o.1) := ⟨HL.out.2.1, by rw [HQ.out, List.getElem?_map, hoq]; rfl⟩
       clear kc d1 d4 d5 n1
       rcases Int.lt_or_le best 0 with hb0 | hb0
       ·have hbm : best = -1 := by
         rcases HBU.out with ⟨e, _⟩ | ⟨b, _, _, e, _⟩
         ·exact e
         ·omega
        subst hbm
        have HB2 : Hid (BestUpto nx s.log (i + 1) i) := BestUpto.first HBU.out HOQ.out.1 HOQ.out.2
        go_upto_region 15 with fail
        go_cut [85] (fun v wd => v = .bool true ∧ Kept (fun _ => False) wc wd)
        case first =>
         go_quiet (fail)
         go_wp2_with fail
         go_meet
         exact ⟨rfl, (Kept.refl _ _).drewN _⟩
        case rest =>
        obtain ⟨rfl, kd⟩ := hcut
        have HKD : Hid (Kept (fun _ => False) wo wc) := HKC.out.trans' kd
        clear kd
        go_wp2_with fail
        go_roundw
        case rel => exact ⟨i + 1, i, by omega, by go_num, rfl, HKD.out, HB2, by omega⟩
        case measure => simp [intOf]; omega
       ·obtain ⟨b, rfl⟩ : ∃ b : Nat, best = b := ⟨best.toNat, by omega⟩
        obtain ⟨hbi, lb0, ob0, hlb0, hob0⟩ : b < i ∧ ∃ lb ob, s.log[b]? = some lb ∧ lb[nx.getD b 0]? = some ob := by
         rcases HBU.out with ⟨e, _⟩ | ⟨b', lb, ob, e, e2, e3, e4, _⟩
         ·omega
         ·obtain rfl : b = b' := by omega
          exact ⟨e2, lb, ob, e3, e4⟩
        obtain ⟨m, ma, mc, hm, hmlog, hmM, hmc, hmo⟩ := HLN.out b (by omega)
        obtain ⟨n3, n4⟩ := RC.next (i := b) (by omega)
        obtain ⟨u, hu⟩ : ∃ u, nx.getD b 0 = u := ⟨_, rfl⟩
        rw [hu] at n3 n4 hob0
        rw [hmlog] at hlb0
        cases hlb0
        have hum : u < m.length := by
         have := (List.getElem?_eq_some_iff.1 hob0).1
         simpa using this
        have hum2 : (u : Int) < (m.length : Int) := by omega
        have hbk : b < k := by omega
        have hbk2 : (b : Int) < (k : Int) := by omega
        obtain ⟨p, hpq⟩ : ∃ p, m[u]? = some p := ⟨_, List.getElem?_eq_getElem hum⟩
        obtain ⟨mg, rfl, cm, _⟩ := hmo u p hpq
        have x7 := RC.kept.cell' cm (fun h => h)
        have x8 := RC.kept.cell' hmc (fun h => h)
        have mz : mg < wc.heap.size := World.block_lt_of_cell? wc _ x7
        obtain ⟨e2, HE2⟩ : ∃ e : Bool, Hid (e = decide ((o.1.clock : Int) < (p.1.clock : Int))) := ⟨_, rfl⟩
        have HPQ : Hid (s.log[b]? = some (m.map Prod.fst) ∧ (m.map Prod.fst)[nx.getD b 0]? = some p.1) := ⟨hmlog, by rw [hu, List.getElem?_map, hpq]; rfl⟩
        have hbn : ¬ (b : Int) < 0 := by omega
        clear hob0 hmo hpq hoq hm hmlog hmc hu RC HLN
        go_upto_region 15 with fail
        go_cut [85] (fun v wd => v = .bool e2 ∧ Kept (fun _ => False) wc wd)
        case first =>
         refine wp_region_byG (by kernel_rfl) _ rfl (by kernel_rfl) (fun iz v wx => match iz with
          | 0 => v = .int .i64 (b : Nat)
          | 1 => v = .bool false
          | 2 => v = .bool false
          | 3 => v = .pointer (some ⟨bp, 0, none⟩)
          | 4 => v = .pointer (some ⟨bp, 0, none⟩)
          | 5 => v = .pointer (some ⟨bp, 4, none⟩)
          | 6 => v = .slice (some ⟨bo, 0, none⟩) k k
          | 7 => v = .int .i64 (i : Nat)
          | 8 => v = .pointer (some ⟨bo, i, none⟩)
          | 9 => v = .slice (some ⟨lg, 0, none⟩) l.length lc
          | 10 => v = .slice (some ⟨gn, 0, none⟩) k cn
          | 11 => v = .int .i64 (i : Nat)
          | 12 => v = .pointer (some ⟨gn, i, none⟩)
          | 13 => v = .int .i64 (q : Nat)
          | 14 => v = .pointer (some ⟨lg, q * 9, none⟩)
          | 15 => v = .pointer (some ⟨lg, q * 9 + 3, none⟩)
          | 16 => v = .int .i64 (o.1.clock : Nat)
          | 17 => v = .pointer (some ⟨bp, 0, none⟩)
          | 18 => v = .pointer (some ⟨bp, 0, none⟩)
          | 19 => v = .pointer (some ⟨bp, 4, none⟩)
          | 20 => v = .slice (some ⟨bo, 0, none⟩) k k
          | 21 => v = .int .i64 (b : Nat)
          | 22 => v = .pointer (some ⟨bo, b, none⟩)
          | 23 => v = .slice (some ⟨mg, 0, none⟩) m.length mc
          | 24 => v = .slice (some ⟨gn, 0, none⟩) k cn
          | 25 => v = .int .i64 (b : Nat)
          | 26 => v = .pointer (some ⟨gn, b, none⟩)
          | 27 => v = .int .i64 (u : Nat)
          | 28 => v = .pointer (some ⟨mg, u * 9, none⟩)
          | 29 => v = .pointer (some ⟨mg, u * 9 + 3, none⟩)
          | 30 => v = .int .i64 (p.1.clock : Nat)
          | 31 => v = .bool e2
          | 32 => v = .bool e2
          | _ => True) ?_ ?_ ?_
         ·intro i v wa wb hv hk
          split at hv
          all_goals exact hv
         ·intro i o' hi a' wa up
          have hk' := up.kept
          have hkk : Kept (fun _ => False) wc wa := ((Kept.refl _ wc).drew).trans' hk'
          have u4 := hkk.cell' x4 (fun h => h)
          have u5 := hkk.cell' x5 (fun h => h)
          have u6 := hkk.cell' x6 (fun h => h)
          have u7 := hkk.cell' x7 (fun h => h)
          have u8 := hkk.cell' x8 (fun h => h)
          have w1 := hkk.cell' y1 (fun h => h)
          have w3 := hkk.cell' n3 (fun h => h)
          have hold : ∀ d : Nat, (d = 0 ∨ d = 7 ∨ d = 9 ∨ d = 10) → a'.tmps[d]? = _ := fun d hd => up.old d (by
           intro j oj hj hjd
           exfalso
           rcases j with _ | _ | _ | _ | _ | _ | _ | _ | _ | _ | _ | _ | _ | _ | _ | _ | _ | _ | _ | _ | _ | _ | _ | _ | _ | _ | _ | _ | _ | _ | _ | _ | _ | j <;> simp at hj <;> subst hj <;> simp at hjd <;> omega)
          have o0 := hold 0 (by decide)
          have o7 := hold 7 (by decide)
          have o9 := hold 9 (by decide)
          have o10 := hold 10 (by decide)
          simp at o0 o7 o9 o10
          clear hold
          rcases i with _ | _ | _ | _ | _ | _ | _ | _ | _ | _ | _ | _ | _ | _ | _ | _ | _ | _ | _ | _ | _ | _ | _ | _ | _ | _ | _ | _ | _ | _ | _ | _ | _ | i
          all_goals simp only [List.getElem?_cons_zero, List.getElem?_cons_succ, List.getElem?_nil, Option.some.injEq, reduceCtorEq] at hi
          all_goals try subst hi
          ·left
           refine ⟨by simp [Region.wanted], ?_⟩
           simp [Oper.wp, go_sem, Act.eval, o9]
           exact ⟨_, rfl, rfl, Kept.refl _ _⟩
          ·obtain ⟨_, s0, rfl⟩ := up.d 0 53 rfl rfl
           left
           refine ⟨by simp [Region.wanted], ?_⟩
           simp [Oper.wp, go_sem, Act.eval, s0, hbn]
           exact ⟨_, rfl, rfl, Kept.refl _ _⟩
          ·obtain ⟨_, s1, rfl⟩ := up.d 1 54 rfl rfl
           left
           refine ⟨by simp [Region.wanted], ?_⟩
           simp [Oper.wp, go_sem, Act.eval, s1]
           exact ⟨_, rfl, rfl, Kept.refl _ _⟩
          ·obtain ⟨_, sg, rfl⟩ := up.d 2 55 rfl rfl
           left
           refine ⟨by simp [Region.wanted, yielded, sg], ?_⟩
           simp [Oper.wp, go_sem, Act.eval, o0]
           exact ⟨_, rfl, rfl, Kept.refl _ _⟩
          ·obtain ⟨_, s3, rfl⟩ := up.d 3 56 rfl rfl
           obtain ⟨_, sg, rfl⟩ := up.d 2 55 rfl rfl
           left
           refine ⟨by simp [Region.wanted, yielded, sg], ?_⟩
           simp [Oper.wp, go_sem, Act.eval, s3]
           exact ⟨_, rfl, rfl, Kept.refl _ _⟩
          ·obtain ⟨_, s4, rfl⟩ := up.d 4 57 rfl rfl
           obtain ⟨_, sg, rfl⟩ := up.d 2 55 rfl rfl
           left
           refine ⟨by simp [Region.wanted, yielded, sg], ?_⟩
           simp [Oper.wp, go_sem, Act.eval, s4]
           exact ⟨_, rfl, rfl, Kept.refl _ _⟩
          ·obtain ⟨_, s5, rfl⟩ := up.d 5 58 rfl rfl
           obtain ⟨_, sg, rfl⟩ := up.d 2 55 rfl rfl
           left
           refine ⟨by simp [Region.wanted, yielded, sg], ?_⟩
           simp [Oper.wp, go_sem, Act.eval, s5, u4]
           exact ⟨_, rfl, rfl, Kept.refl _ _⟩
          ·obtain ⟨_, sg, rfl⟩ := up.d 2 55 rfl rfl
           left
           refine ⟨by simp [Region.wanted, yielded, sg], ?_⟩
           simp [Oper.wp, go_sem, Act.eval, o10]
           exact ⟨_, rfl, rfl, Kept.refl _ _⟩
          ·obtain ⟨_, s6, rfl⟩ := up.d 6 59 rfl rfl
           obtain ⟨_, s7, rfl⟩ := up.d 7 60 rfl rfl
           obtain ⟨_, sg, rfl⟩ := up.d 2 55 rfl rfl
           left
           refine ⟨by simp [Region.wanted, yielded, sg], ?_⟩
           simp [Oper.wp, go_sem, Act.eval, s6, s7, hlt2, hlt]
           exact ⟨_, rfl, rfl, Kept.refl _ _⟩
          ·obtain ⟨_, s8, rfl⟩ := up.d 8 61 rfl rfl
           obtain ⟨_, sg, rfl⟩ := up.d 2 55 rfl rfl
           left
           refine ⟨by simp [Region.wanted, yielded, sg], ?_⟩
           simp [Oper.wp, go_sem, Act.eval, s8, u5]
           exact ⟨_, rfl, rfl, Kept.refl _ _⟩
          ·obtain ⟨_, sg, rfl⟩ := up.d 2 55 rfl rfl
           left
           refine ⟨by simp [Region.wanted, yielded, sg], ?_⟩
           simp [Oper.wp, go_sem, Act.eval, o7]
           exact ⟨_, rfl, rfl, Kept.refl _ _⟩
          ·obtain ⟨_, sg, rfl⟩ := up.d 2 55 rfl rfl
           left
           refine ⟨by simp [Region.wanted, yielded, sg], ?_⟩
           simp [Oper.wp, go_sem, Act.eval, o10]
           exact ⟨_, rfl, rfl, Kept.refl _ _⟩
          ·obtain ⟨_, s10, rfl⟩ := up.d 10 63 rfl rfl
           obtain ⟨_, s11, rfl⟩ := up.d 11 64 rfl rfl
           obtain ⟨_, sg, rfl⟩ := up.d 2 55 rfl rfl
           left
           refine ⟨by simp [Region.wanted, yielded, sg], ?_⟩
           simp [Oper.wp, go_sem, Act.eval, s10, s11, hlt2, hlt]
           exact ⟨_, rfl, rfl, Kept.refl _ _⟩
          ·obtain ⟨_, s12, rfl⟩ := up.d 12 65 rfl rfl
           obtain ⟨_, sg, rfl⟩ := up.d 2 55 rfl rfl
           left
           refine ⟨by simp [Region.wanted, yielded, sg], ?_⟩
           simp [Oper.wp, go_sem, Act.eval, s12, w1]
           exact ⟨_, rfl, rfl, Kept.refl _ _⟩
          ·obtain ⟨_, s9, rfl⟩ := up.d 9 62 rfl rfl
           obtain ⟨_, s13, rfl⟩ := up.d 13 66 rfl rfl
           obtain ⟨_, sg, rfl⟩ := up.d 2 55 rfl rfl
           left
           refine ⟨by simp [Region.wanted, yielded, sg], ?_⟩
           simp [Oper.wp, go_sem, Act.eval, s9, s13, hlq2, hlq]
           exact ⟨_, rfl, rfl, Kept.refl _ _⟩
          ·obtain ⟨_, s14, rfl⟩ := up.d 14 67 rfl rfl
           obtain ⟨_, sg, rfl⟩ := up.d 2 55 rfl rfl
           left
           refine ⟨by simp [Region.wanted, yielded, sg], ?_⟩
           simp [Oper.wp, go_sem, Act.eval, s14]
           exact ⟨_, rfl, rfl, Kept.refl _ _⟩
          ·obtain ⟨_, s15, rfl⟩ := up.d 15 68 rfl rfl
           obtain ⟨_, sg, rfl⟩ := up.d 2 55 rfl rfl
           left
           refine ⟨by simp [Region.wanted, yielded, sg], ?_⟩
           simp [Oper.wp, go_sem, Act.eval, s15, u6]
           exact ⟨_, rfl, rfl, Kept.refl _ _⟩
          ·obtain ⟨_, sg, rfl⟩ := up.d 2 55 rfl rfl
           left
           refine ⟨by simp [Region.wanted, yielded, sg], ?_⟩
           simp [Oper.wp, go_sem, Act.eval, o0]
           exact ⟨_, rfl, rfl, Kept.refl _ _⟩
          ·obtain ⟨_, s17, rfl⟩ := up.d 17 70 rfl rfl
           obtain ⟨_, sg, rfl⟩ := up.d 2 55 rfl rfl
           left
           refine ⟨by simp [Region.wanted, yielded, sg], ?_⟩
           simp [Oper.wp, go_sem, Act.eval, s17]
           exact ⟨_, rfl, rfl, Kept.refl _ _⟩
          ·obtain ⟨_, s18, rfl⟩ := up.d 18 71 rfl rfl
           obtain ⟨_, sg, rfl⟩ := up.d 2 55 rfl rfl
           left
           refine ⟨by simp [Region.wanted, yielded, sg], ?_⟩
           simp [Oper.wp, go_sem, Act.eval, s18]
           exact ⟨_, rfl, rfl, Kept.refl _ _⟩
          ·obtain ⟨_, s19, rfl⟩ := up.d 19 72 rfl rfl
           obtain ⟨_, sg, rfl⟩ := up.d 2 55 rfl rfl
           left
           refine ⟨by simp [Region.wanted, yielded, sg], ?_⟩
           simp [Oper.wp, go_sem, Act.eval, s19, u4]
           exact ⟨_, rfl, rfl, Kept.refl _ _⟩
          ·obtain ⟨_, sg, rfl⟩ := up.d 2 55 rfl rfl
           left
           refine ⟨by simp [Region.wanted, yielded, sg], ?_⟩
           simp [Oper.wp, go_sem, Act.eval, o9]
           exact ⟨_, rfl, rfl, Kept.refl _ _⟩
          ·obtain ⟨_, s20, rfl⟩ := up.d 20 73 rfl rfl
           obtain ⟨_, s21, rfl⟩ := up.d 21 74 rfl rfl
           obtain ⟨_, sg, rfl⟩ := up.d 2 55 rfl rfl
           left
           refine ⟨by simp [Region.wanted, yielded, sg], ?_⟩
           simp [Oper.wp, go_sem, Act.eval, s20, s21, hbk2, hbk]
           exact ⟨_, rfl, rfl, Kept.refl _ _⟩
          ·obtain ⟨_, s22, rfl⟩ := up.d 22 75 rfl rfl
           obtain ⟨_, sg, rfl⟩ := up.d 2 55 rfl rfl
           left
           refine ⟨by simp [Region.wanted, yielded, sg], ?_⟩
           simp [Oper.wp, go_sem, Act.eval, s22, u8]
           exact ⟨_, rfl, rfl, Kept.refl _ _⟩
          ·obtain ⟨_, sg, rfl⟩ := up.d 2 55 rfl rfl
           left
           refine ⟨by simp [Region.wanted, yielded, sg], ?_⟩
           simp [Oper.wp, go_sem, Act.eval, o7]
           exact ⟨_, rfl, rfl, Kept.refl _ _⟩
          ·obtain ⟨_, sg, rfl⟩ := up.d 2 55 rfl rfl
           left
           refine ⟨by simp [Region.wanted, yielded, sg], ?_⟩
           simp [Oper.wp, go_sem, Act.eval, o9]
           exact ⟨_, rfl, rfl, Kept.refl _ _⟩
          ·obtain ⟨_, s24, rfl⟩ := up.d 24 77 rfl rfl
           obtain ⟨_, s25, rfl⟩ := up.d 25 78 rfl rfl
           obtain ⟨_, sg, rfl⟩ := up.d 2 55 rfl rfl
           left
           refine ⟨by simp [Region.wanted, yielded, sg], ?_⟩
           simp [Oper.wp, go_sem, Act.eval, s24, s25, hbk2, hbk]
           exact ⟨_, rfl, rfl, Kept.refl _ _⟩
          ·obtain ⟨_, s26, rfl⟩ := up.d 26 79 rfl rfl
           obtain ⟨_, sg, rfl⟩ := up.d 2 55 rfl rfl
           left
           refine ⟨by simp [Region.wanted, yielded, sg], ?_⟩
           simp [Oper.wp, go_sem, Act.eval, s26, w3]
           exact ⟨_, rfl, rfl, Kept.refl _ _⟩
          ·obtain ⟨_, s23, rfl⟩ := up.d 23 76 rfl rfl
           obtain ⟨_, s27, rfl⟩ := up.d 27 80 rfl rfl
           obtain ⟨_, sg, rfl⟩ := up.d 2 55 rfl rfl
           left
           refine ⟨by simp [Region.wanted, yielded, sg], ?_⟩
           simp [Oper.wp, go_sem, Act.eval, s23, s27, hum2, hum]
           exact ⟨_, rfl, rfl, Kept.refl _ _⟩
          ·obtain ⟨_, s28, rfl⟩ := up.d 28 81 rfl rfl
           obtain ⟨_, sg, rfl⟩ := up.d 2 55 rfl rfl
           left
           refine ⟨by simp [Region.wanted, yielded, sg], ?_⟩
           simp [Oper.wp, go_sem, Act.eval, s28]
           exact ⟨_, rfl, rfl, Kept.refl _ _⟩
          ·obtain ⟨_, s29, rfl⟩ := up.d 29 82 rfl rfl
           obtain ⟨_, sg, rfl⟩ := up.d 2 55 rfl rfl
           left
           refine ⟨by simp [Region.wanted, yielded, sg], ?_⟩
           simp [Oper.wp, go_sem, Act.eval, s29, u7]
           exact ⟨_, rfl, rfl, Kept.refl _ _⟩
          ·obtain ⟨_, s16, rfl⟩ := up.d 16 69 rfl rfl
           obtain ⟨_, s30, rfl⟩ := up.d 30 83 rfl rfl
           obtain ⟨_, sg, rfl⟩ := up.d 2 55 rfl rfl
           left
           refine ⟨by simp [Region.wanted, yielded, sg], ?_⟩
           simp [Oper.wp, go_sem, Act.eval, s16, s30]
           exact ⟨_, rfl, by simp [HE2.out], Kept.refl _ _⟩
          ·obtain ⟨_, s2, rfl⟩ := up.d 2 55 rfl rfl
           obtain ⟨_, s31, rfl⟩ := up.d 31 84 rfl rfl
           left
           refine ⟨by simp [Region.wanted], ?_⟩
           simp [Oper.wp, go_sem, Act.eval, s2, s31]
           exact ⟨_, rfl, rfl, Kept.refl _ _⟩
         ·intro vals wz hk hvv
          have h32 : vals 32 = _ := hvv 32 (by decide)
          have hk0 : Kept (fun _ => False) wc wz := ((Kept.refl _ wc).drew).trans' hk
          clear hvv
          simp only [putAll, Act.put, h32]
          simp only [Nat.reduceAdd, Nat.zero_add, List.setIfInBounds_toArray, List.set_cons_succ, List.set_cons_zero]
          go_wp2_with fail
          go_meet
          exact ⟨rfl, hk0⟩
        case rest =>
        obtain ⟨rfl, kd⟩ := hcut
        have HKD : Hid (Kept (fun _ => False) wo wc) := HKC.out.trans' kd
        clear kd
        cases e2 with
        | true =>
         have hcl : o.1.clock < p.1.clock := by
          have := of_decide_eq_true HE2.out.symm
          omega
         have HB2 : Hid (BestUpto nx s.log (i + 1) i) := BestUpto.less HBU.out HOQ.out.1 HOQ.out.2 HPQ.out.1 HPQ.out.2 hcl
         go_wp2_with fail
         go_roundw
         case rel => exact ⟨i + 1, i, by omega, by go_num, rfl, HKD.out, HB2, by omega⟩
         case measure => simp [intOf]; omega
        | false =>
         have hcl : ¬ o.1.clock < p.1.clock := by
          have := of_decide_eq_false HE2.out.symm
          omega
         have HB2 : Hid (BestUpto nx s.log (i + 1) b) := BestUpto.more HBU.out HOQ.out.1 HOQ.out.2 HPQ.out.1 HPQ.out.2 hcl
         go_wp2_with fail
         go_roundw
         case rel => exact ⟨i + 1, b, by omega, by go_num, rfl, HKD.out, HB2, by omega⟩
         case measure => simp [intOf]; omega
     ·have hlt2 : ¬ (i : Int) < (k : Int) := by omega
      have hlt3 : decide ((i : Int) < (k : Int)) = false := by rw [decide_eq_false_iff_not]; exact hlt2
      obtain rfl : i = k := by omega
      have HRI : Hid (RRest w0 wi s.log qs T i gn cn (.slice pa os.length pc) nx os) := R
      rcases Int.lt_or_le best 0 with hb0 | hb0
      ·have hbm : best = -1 := by
        rcases HBU.out with ⟨e, _⟩ | ⟨b, _, _, e, _⟩
        ·exact e
        ·omega
       subst hbm
       have HP : Hid (RRestPost w0 qs s.log (.returned (.tuple #[.slice pa os.length pc, .int .i64 0])) wi) := by
        refine ⟨_, rfl, os, ?_, R.row, R.kept, R.pnew⟩
        have e1 : Merged (above nx s.log) [] := BestUpto.ended (by rw [HB.out.2.1]; exact HBU.out)
        have := R.merged [] e1
        rw [List.append_nil] at this
        exact this
       clear R hkI
       go_wp2_with fail
       go_ret2
       exact HP.out
      ·obtain ⟨b, rfl⟩ : ∃ b : Nat, best = b := ⟨best.toNat, by omega⟩
       have hnx : nx.length = s.log.length := by rw [R.nlen, HB.out.2.1]
       obtain ⟨l0, o0, hbl, hl0, ho0, htot, hmg⟩ := BestUpto.next HB.out.2.2.1 hnx (by rw [HB.out.2.1]; exact HBU.out)
       rw [HB.out.2.1] at hbl
       obtain ⟨m, ma, mc, hm, hmlog, hmM, hmc, hmo⟩ := HLN.out b hbl
       rw [hmlog] at hl0
       cases hl0
       obtain ⟨n3, n4⟩ := R.next hbl
       obtain ⟨u, hu⟩ : ∃ u, nx.getD b 0 = u := ⟨_, rfl⟩
       rw [hu] at n3 n4 ho0 htot hmg
       have hum : u < m.length := by
        have := (List.getElem?_eq_some_iff.1 ho0).1
        simpa using this
       have hum2 : (u : Int) < (m.length : Int) := by omega
       have hbk2 : (b : Int) < (i : Int) := by omega
       obtain ⟨p, hpq⟩ : ∃ p, m[u]? = some p := ⟨_, List.getElem?_eq_getElem hum⟩
       have hpo : p.1 = o0 := by
        rw [List.getElem?_map, hpq] at ho0
        exact Option.some.inj ho0
       subst hpo
       obtain ⟨mg, rfl, _, cm⟩ := hmo u p hpq
       have x7 := R.kept.cell' cm (fun h => h)
       have x8 := R.kept.cell' hmc (fun h => h)
       have mz : mg < wi.heap.size := World.block_lt_of_cell? wi _ x7
       have boz2 : bo < wi.heap.size := World.block_lt_of_cell? wi _ x8
       have gz : gn < wi.heap.size := World.block_lt_of_cell? wi _ n3
       obtain ⟨S, hS⟩ : ∃ S : ByteArray, (⟨p.1.packet.toArray⟩ : ByteArray) = S := ⟨_, rfl⟩
       rw [hS] at x7
       have HST : Hid ((⟨p.1.packet.toArray⟩ : ByteArray) = S) := hS
       have HNX : Hid (total (above nx s.log) = total (above (nx.set b (u + 1)) s.log) + 1 ∧ ∀ r, Merged (above (nx.set b (u + 1)) s.log) r → Merged (above nx s.log) (p.1 :: r)) := ⟨htot, hmg⟩
       have hrow6 : wi.ownsRow 0 9 1 (.slice pa os.length pc) os.length (strsOf os) := R.row
       have hosT : os.length + 1 ≤ T := by have := R.tot; omega
       have hosM : os.length ≤ 4294967000 := by omega
       have hbn : ¬ (b : Int) < 0 := by omega
       have hbn2 : decide ((b : Int) < 0) = false := by rw [decide_eq_false_iff_not]; exact hbn
       have hgo : (Value.slice pa os.length pc).ownBlock ≠ some gn := by
        rcases R.nrow.2 with ⟨e, _⟩ | ⟨g', cap', cur', e, _, hg', _⟩
        ·cases e
        ·cases e
         exact own_ne R.row hg' (by decide)
       have hold2 : ∀ bb, bb < w0.heap.size → (Value.slice pa os.length pc).ownBlock ≠ some bb := fun bb hb1 hb2 => by
        have := R.pnew bb hb2
        omega
       have hbpz : bp < w0.heap.size := bz
       have hmgz : mg < w0.heap.size := World.block_lt_of_cell? w0 _ cm
       clear hmo hpq hm hmlog hmc hu R HLN hkI ho0 htot hmg hS
       go_upto_region 19 with fail
       go_cut [8] (fun v wd => wd.ownsRow 0 9 1 v (os.length + 1) (strsOf os ++ [.string S]) ∧ (∀ b, v.ownBlock = some b → (Value.slice pa os.length pc).ownBlock = some b ∨ wi.heap.size ≤ b) ∧ Kept (fun b => (Value.slice pa os.length pc).ownBlock = some b) wi wd)
       case first =>
        refine wp_region_tailB (by kernel_rfl) 17 _ rfl (by kernel_rfl) (fun b => (Value.slice pa os.length pc).ownBlock = some b) 16 (fun iz v wx => match iz with
         | 0 => v = .slice pa os.length pc
         | 1 => v = .pointer (some ⟨bp, 0, none⟩)
         | 2 => v = .pointer (some ⟨bp, 0, none⟩)
         | 3 => v = .pointer (some ⟨bp, 4, none⟩)
         | 4 => v = .slice (some ⟨bo, 0, none⟩) i i
         | 5 => v = .int .i64 (b : Nat)
         | 6 => v = .pointer (some ⟨bo, b, none⟩)
         | 7 => v = .slice (some ⟨mg, 0, none⟩) m.length mc
         | 8 => v = .slice (some ⟨gn, 0, none⟩) i cn
         | 9 => v = .int .i64 (b : Nat)
         | 10 => v = .pointer (some ⟨gn, b, none⟩)
         | 11 => v = .int .i64 (u : Nat)
         | 12 => v = .pointer (some ⟨mg, u * 9, none⟩)
         | 13 => v = .pointer (some ⟨mg, u * 9 + 8, none⟩)
         | 14 => v = .string S
         | 15 => ∃ vb, v = .slice (some ⟨vb, 0, none⟩) 1 1 ∧ wx.heap[vb]? = some (.cells #[.string S] 9 (0, 0)) ∧ wi.heap.size ≤ vb
         | 16 => wx.ownsRow 0 9 1 v (os.length + 1) (strsOf os ++ [.string S]) ∧ (∀ b, v.ownBlock = some b → (Value.slice pa os.length pc).ownBlock = some b ∨ wi.heap.size ≤ b)
         | _ => True) ?_ ?_ ?_ ?_ ?_
        ·intro i v wa wb hv hk
         split at hv
         case h_16 =>
          obtain ⟨vb, h1, h2, h3⟩ := hv
          exact ⟨vb, h1, hk.heap h2 (fun h => h), h3⟩
         case h_17 =>
          exact ⟨ownsRow_kept hv.1 hk (fun _ _ h => h), hv.2⟩
         all_goals exact hv
        ·intro i v wa wb hi hv hk
         split at hv
         case h_16 =>
          obtain ⟨vb, h1, h2, h3⟩ := hv
          exact ⟨vb, h1, hk.heap h2 (fun h => by have := (hrow6.lt vb h).2; omega), h3⟩
         case h_17 =>
          exact absurd rfl hi
         all_goals exact hv
        ·intro i o' hin his hi a' wa hk' up
         have hkk : Kept (fun b => (Value.slice pa os.length pc).ownBlock = some b) wi wa := (((Kept.refl (fun _ => False) wi).drew).mono (fun _ _ h => h.elim)).trans hk' (fun _ _ h => h)
         have u4 := hkk.cell' d4 (hold2 _ hbpz)
         have u8 := hkk.cell' x8 (hold2 _ boz)
         have u3 := hkk.cell' n3 hgo
         have u7 := hkk.cell' x7 (hold2 _ hmgz)
         have hold : ∀ d : Nat, (d = 0 ∨ d = 7 ∨ d = 9) → a'.tmps[d]? = _ := fun d hd => up.old d (by
          intro j oj hj hjd
          exfalso
          rcases j with _ | _ | _ | _ | _ | _ | _ | _ | _ | _ | _ | _ | _ | _ | _ | _ | _ | _ | j <;> simp at hj <;> subst hj <;> simp at hjd <;> omega)
         have o0 := hold 0 (by decide)
         have o7 := hold 7 (by decide)
         have o9 := hold 9 (by decide)
         simp at o0 o7 o9
         clear hold
         rcases i with _ | _ | _ | _ | _ | _ | _ | _ | _ | _ | _ | _ | _ | _ | _ | _ | _ | i
         all_goals simp only [List.getElem?_cons_zero, List.getElem?_cons_succ, List.getElem?_nil, Option.some.injEq, reduceCtorEq] at hi
         all_goals try subst hi
         ·have o8 : a'.tmps[8]? = _ := up.old 8 (by
           intro j oj hj hjd
           rcases j with _ | _ | _ | _ | _ | _ | _ | _ | _ | _ | _ | _ | _ | _ | _ | _ | _ | _ | j <;> simp at hj <;> subst hj <;> simp at hjd
           right
           exact ⟨⟨0, .phase⟩, by simp, rfl, rfl⟩)
          simp at o8
          simp [Oper.wp, go_sem, Act.eval, o8]
          exact ⟨_, rfl, rfl, Kept.refl _ _⟩
         ·simp [Oper.wp, go_sem, Act.eval, o0]
          exact ⟨_, rfl, rfl, Kept.refl _ _⟩
         ·obtain ⟨_, s1, rfl⟩ := up.d 1 91 rfl rfl
          simp [Oper.wp, go_sem, Act.eval, s1]
          exact ⟨_, rfl, rfl, Kept.refl _ _⟩
         ·obtain ⟨_, s2, rfl⟩ := up.d 2 92 rfl rfl
          simp [Oper.wp, go_sem, Act.eval, s2]
          exact ⟨_, rfl, rfl, Kept.refl _ _⟩
         ·obtain ⟨_, s3, rfl⟩ := up.d 3 93 rfl rfl
          simp [Oper.wp, go_sem, Act.eval, s3, u4]
          exact ⟨_, rfl, rfl, Kept.refl _ _⟩
         ·simp [Oper.wp, go_sem, Act.eval, o9]
          exact ⟨_, rfl, rfl, Kept.refl _ _⟩
         ·obtain ⟨_, s4, rfl⟩ := up.d 4 94 rfl rfl
          obtain ⟨_, s5, rfl⟩ := up.d 5 95 rfl rfl
          simp [Oper.wp, go_sem, Act.eval, s4, s5, hbk2, hbl]
          exact ⟨_, rfl, rfl, Kept.refl _ _⟩
         ·obtain ⟨_, s6, rfl⟩ := up.d 6 96 rfl rfl
          simp [Oper.wp, go_sem, Act.eval, s6, u8]
          exact ⟨_, rfl, rfl, Kept.refl _ _⟩
         ·simp [Oper.wp, go_sem, Act.eval, o7]
          exact ⟨_, rfl, rfl, Kept.refl _ _⟩
         ·simp [Oper.wp, go_sem, Act.eval, o9]
          exact ⟨_, rfl, rfl, Kept.refl _ _⟩
         ·obtain ⟨_, s8, rfl⟩ := up.d 8 98 rfl rfl
          obtain ⟨_, s9, rfl⟩ := up.d 9 99 rfl rfl
          simp [Oper.wp, go_sem, Act.eval, s8, s9, hbk2, hbl]
          exact ⟨_, rfl, rfl, Kept.refl _ _⟩
         ·obtain ⟨_, s10, rfl⟩ := up.d 10 100 rfl rfl
          simp [Oper.wp, go_sem, Act.eval, s10, u3]
          exact ⟨_, rfl, rfl, Kept.refl _ _⟩
         ·obtain ⟨_, s7, rfl⟩ := up.d 7 97 rfl rfl
          obtain ⟨_, s11, rfl⟩ := up.d 11 101 rfl rfl
          simp [Oper.wp, go_sem, Act.eval, s7, s11, hum2, hum]
          exact ⟨_, rfl, rfl, Kept.refl _ _⟩
         ·obtain ⟨_, s12, rfl⟩ := up.d 12 102 rfl rfl
          simp [Oper.wp, go_sem, Act.eval, s12]
          exact ⟨_, rfl, rfl, Kept.refl _ _⟩
         ·obtain ⟨_, s13, rfl⟩ := up.d 13 103 rfl rfl
          simp [Oper.wp, go_sem, Act.eval, s13, u7]
          exact ⟨_, rfl, rfl, Kept.refl _ _⟩
         ·obtain ⟨_, s14, rfl⟩ := up.d 14 104 rfl rfl
          simp [Oper.wp, go_sem, Act.eval, s14]
          exact ⟨_, rfl, ⟨_, rfl, heap_alloc_new wa _, hkk.size⟩, (Kept.refl _ _).alloc _⟩
         ·exact absurd rfl his
         ·omega
        ·intro o' _ ho a' wa hk' up
         have hkk : Kept (fun b => (Value.slice pa os.length pc).ownBlock = some b) wi wa := (((Kept.refl (fun _ => False) wi).drew).mono (fun _ _ h => h.elim)).trans hk' (fun _ _ h => h.elim)
         have u4 := hkk.cell' d4 (hold2 _ hbpz)
         have u8 := hkk.cell' x8 (hold2 _ boz)
         have u3 := hkk.cell' n3 hgo
         have u7 := hkk.cell' x7 (hold2 _ hmgz)
         simp only [List.getElem?_cons_zero, List.getElem?_cons_succ, List.getElem?_nil, Option.some.injEq, reduceCtorEq] at ho
         subst ho
         obtain ⟨_, s0, rfl⟩ := up.d 0 90 rfl rfl
         obtain ⟨v15, s15, hv15⟩ := up.d 15 105 rfl rfl
         obtain ⟨vb, e15, hvb, hvz⟩ := hv15
         subst e15
         obtain ⟨i0, hi0, hz0, hzs, hzb⟩ := info_parts info_str
         have hq : Kept (fun _ => False) wi wa := ((Kept.refl _ wi).drew).trans' hk'
         have hsrc := src_new wa vb 9 27 Tryz.underlying27 [.string S] hvb (by intro v hv; simp at hv; subst hv; rfl)
         obtain ⟨v', w', hrun, hown', hkq, hnn⟩ := append_strong Tryz.prog wa 27 27 9 i0 _ 1 16 Tryz.underlying27 hi0 hz0 hzs hzb rfl (by decide) _ _ _ (ownsRow_kept hrow6 hq (fun _ _ h => h)) _ 1 _ hsrc (by decide) (by unfold maxLen; omega) (by omega)
         refine Lib.wp_append_run wa _ _ _ _ rfl (.slice pa os.length pc) (.slice (some ⟨vb, 0, none⟩) 1 1) (by simp [Act.eval, s0]) (by simp [Act.eval, s15]) v' w' (hrun _) ?_
         refine ⟨v', rfl, ⟨hown', fun b hb => ?_⟩, hkq⟩
         rcases hnn b hb with h1 | h1
         ·exact Or.inl h1
         ·exact Or.inr (Nat.le_trans hq.size h1)
        ·intro vals wz hk hvv
         obtain ⟨h16, h16b⟩ := hvv 16 (by decide)
         obtain ⟨v', hv'⟩ : ∃ v', vals 16 = v' := ⟨_, rfl⟩
         rw [hv'] at h16 h16b
         obtain ⟨a7, p7, ex7, _, _⟩ := own_slice h16
         subst ex7
         have hkz : Kept (fun b => (Value.slice pa os.length pc).ownBlock = some b) wi wz := (((Kept.refl (fun _ => False) wi).drew).mono (fun _ _ h => h.elim)).trans hk (fun _ _ h => h)
         have HZ : Hid (_ ∧ _ ∧ _) := ⟨h16, h16b, hkz⟩
         clear hvv h16 h16b hk hkz
         simp only [List.take_succ_cons, List.take_zero, List.drop_succ_cons, List.drop_zero, putAll, Act.put, hv']
         simp only [Nat.reduceAdd, Nat.zero_add, List.setIfInBounds_toArray, List.set_cons_succ, List.set_cons_zero]
         go_wp2_with fail
         go_meet
         exact HZ.out
       case rest =>
       obtain ⟨row2, new2, k2⟩ := hcut
       obtain ⟨a7, p7, ex7, _, _⟩ := own_slice row2
       subst ex7
       have hnr := ownsRow_kept HRI.out.nrow k2 (fun bb hb1 hb2 => hgo (by
        have : gn = bb := by simpa [Value.ownBlock] using hb1
        rw [this]; exact hb2))
       have z1 := k2.cell' n3 hgo
       have z2 : gn < wc.heap.size := World.block_lt_of_cell? wc _ z1
       have zf : wc.frozen? ⟨gn, b, none⟩ = false := by
        rcases hnr.2 with ⟨e1, h0⟩ | ⟨g', cap, cur, e1, _, hg, _⟩
        ·cases e1
        ·cases e1
         exact Lib.frozen_of_heap hg b
       have HR2 : Hid (RRest w0 (wc.setCell ⟨gn, b, none⟩ (.int .i64 ((u : Int) + 1))) s.log qs T i gn cn (.slice a7 (os.length + 1) p7) (nx.set b (u + 1)) (os ++ [p.1])) := by
        have hn0 := HRI.out
        have kS : Kept (fun x => x = gn) wc (wc.setCell ⟨gn, b, none⟩ (.int .i64 ((u : Int) + 1))) := Kept.setCell (S := fun x => x = gn) (Kept.refl _ wc) (p := ⟨gn, b, none⟩) (fun _ => rfl) _
        refine ⟨by rw [List.length_set]; exact hn0.nlen, ?_, ?_, ?_, ?_, ?_, ?_, ?_⟩
        ·have h3 := own_set hnr b hbl (.int .i64 ((u : Int) + 1))
         have e : (intsV (nx.map fun n : Nat => (n : Int))).set b (.int .i64 ((u : Int) + 1)) = intsV ((nx.set b (u + 1)).map fun n : Nat => (n : Int)) := by
          unfold intsV
          rw [List.map_set, List.map_set]
          rfl
         rw [e] at h3
         exact h3
        ·intro x hx
         rcases List.mem_or_eq_of_mem_set hx with hx | rfl
         ·exact hn0.nb x hx
         ·omega
        ·have e : strsOf (os ++ [p.1]) = strsOf os ++ [.string S] := by
          rw [← HST.out]
          simp [strsOf]
         rw [e, List.length_append]
         refine ownsRow_kept row2 kS (fun bb hb1 hb2 => ?_)
         subst hb2
         rcases new2 bb hb1 with h3 | h3
         ·exact hgo h3
         ·omega
        ·intro r hr
         rw [List.append_assoc]
         exact hn0.merged _ (HNX.out.2 r hr)
        ·have := hn0.tot
         have := HNX.out.1
         rw [List.length_append]
         simp
         omega
        ·intro bb hb1
         rcases new2 bb hb1 with h3 | h3
         ·exact hn0.pnew bb h3
         ·exact Nat.le_trans hn0.kept.size h3
        ·refine (hn0.kept.trans k2 (fun bb h3 h4 => ?_)).trans kS (fun bb h3 h4 => ?_)
         ·exact absurd h4 (hold2 bb h3)
         ·omega
       clear row2 new2 k2 hnr
       go_wp2_with fail
       go_roundw
       case rel => exact ⟨_, _, HR2⟩
       case measure => simp only [vlen]; omega
def AnsPost (w : World) (er : Int) (ops : List Ope) (e' : Ending) (w' : World) : Prop := ∃ pv, e' = .returned (.tuple #[pv, .int .i64 er]) ∧ w'.ownsRow 0 9 1 pv ops.length (strsOf ops) ∧ Kept (fun _ => False) w w' ∧ ∀ b, pv.ownBlock = some b → w.heap.size ≤ b
theorem AnsPost.none (w : World) : AnsPost w 1 [] (.returned (.tuple #[.slice none 0 0, .int .i64 1])) w :=
 ⟨_, rfl, World.ownsRow_nil _ _ _ _, Kept.refl _ _, fun b hb => by simp [Value.ownBlock] at hb⟩
theorem neg_of {N : Nat} {ns : List Int} (h : ¬ (ns.length = N ∧ ∀ n ∈ ns, 0 ≤ n)) (hl : ns.length = N) : ∃ n ∈ ns, n < 0 := by
 refine Classical.byContradiction (fun hc => h ⟨hl, fun n hn => ?_⟩)
 exact Classical.byContradiction (fun hx => hc ⟨n, hn, by omega⟩)
theorem prest_ans {w : World} {bx N M : Nat} {s : Pr} {t : RSt} {F : Nat → Prop} (hP : PM w bx s F) (tw : Two N M s t) (ns : List Int) (g cp : Nat) (hc : ∀ (i : Nat) (n : Int), ns[i]? = some n → w.cell? ⟨g, i, none⟩ = some (.int .i64 n)) (hn : ns.length ≤ 4294967) {er : Int} {ops : List Ope} (ha : Ans N ns s.log er ops) :
  Calls Tryz.prog 36 #[.pointer (some ⟨bx, 0, none⟩), .slice (some ⟨g, 0, none⟩) ns.length cp] w (AnsPost w er ops) := by
 rcases ha with ⟨h1, h2, rfl, hm⟩ | ⟨h1, rfl, rfl⟩
 ·rw [h1]
  refine (rest_all s N bx F (ns.map Int.toNat) g cp w hP tw.fit tw.fit.n8 (by rw [List.length_map, h1]) (fun i n hi => ?_)).mono ?_
  ·rw [List.getElem?_map] at hi
   cases hx : ns[i]? with
   | none => rw [hx] at hi; cases hi
   | some m =>
    rw [hx] at hi
    simp only [Option.map_some, Option.some.injEq] at hi
    have h3 := h2 m (List.mem_of_getElem? hx)
    rw [hc i m hx, show m = (n : Int) by omega]
  ·rintro e' w' ⟨pv, rfl, ops', hm', row, k, nw, _⟩
   obtain rfl : ops' = ops := hm'.unique (Heads.above tw.lp _) hm
   exact ⟨pv, rfl, row, k, nw⟩
 ·by_cases hl : ns.length = N
  ·rw [hl]
   refine (rest_neg s N bx F ns g cp w hP tw.fit hl (neg_of h1 hl) hc).mono ?_
   rintro e' w' ⟨rfl, rfl⟩
   exact AnsPost.none _
  ·refine (rest_len s N bx F _ _ cp w hP tw.fit hl (by omega)).mono ?_
   rintro e' w' ⟨rfl, rfl⟩
   exact AnsPost.none _
theorem rrest_ans {w : World} {bp N M : Nat} {s : Pr} {t : RSt} {F : Nat → Prop} (h : RM w bp t F) (tw : Two N M s t) (hM : M ≤ 4294967000) (a : Option Addr) (c : Nat) (ns : List Int) (hs : IntsG w a ns) (hb : ∀ n ∈ ns, n ≤ 9223372036854775807) (hn : ns.length ≤ 4294967) {er : Int} {ops : List Ope} (ha : Ans N ns s.log er ops) :
  Calls Tryz.prog 37 #[.pointer (some ⟨bp, 0, none⟩), .slice a ns.length c] w (AnsPost w er ops) := by
 have ho := tw.opsN
 have h8 := tw.fit.n8
 rcases ha with ⟨h1, h2, rfl, hm⟩ | ⟨h1, rfl, rfl⟩
 ·rw [h1]
  have e : (ns.map Int.toNat).map (fun n : Nat => (n : Int)) = ns := by
   rw [List.map_map]
   conv => rhs; rw [← List.map_id ns]
   refine List.map_congr_left (fun n hn => ?_)
   have := h2 n hn
   simp
   omega
  refine (rrest_any h tw hM a c (ns.map Int.toNat) (by rw [e]; exact hs) (by rw [List.length_map, h1]) (fun n hn => ?_)).mono ?_
  ·obtain ⟨m, hm, rfl⟩ := List.mem_map.1 hn
   have := hb m hm
   omega
  ·rintro e' w' ⟨pv, rfl, ops', hm', row, k, nw⟩
   obtain rfl : ops' = ops := hm'.unique (Heads.above tw.lp _) hm
   exact ⟨pv, rfl, row, k, nw⟩
 ·by_cases hl : ns.length = N
  ·refine (rrest_neg h a c ns hs (by rw [ho]; exact hl) (by omega) (neg_of h1 hl)).mono ?_
   rintro e' w' ⟨rfl, rfl⟩
   exact AnsPost.none _
  ·refine (rrest_len h a _ c (by rw [ho]; exact hl) (by omega) (by omega)).mono ?_
   rintro e' w' ⟨rfl, rfl⟩
   exact AnsPost.none _
theorem src_own {w : World} {v : Value} {n : Nat} {xs : List Value} (h : w.ownsRow 0 9 1 v n xs) (h1 : ∀ u ∈ xs, u.oneCell' = true) : Src Tryz.prog 1 27 v n xs w := by
 obtain ⟨a, cp, rfl, _, _, f⟩ := own_cells h
 have hl := h.1
 cases n with
 | zero =>
  obtain rfl : xs = [] := List.length_eq_zero_iff.1 (by simpa using hl)
  cases a with
  | none => exact Src.ofNil w Tryz.underlying27 cp
  | some ad => exact Src.ofSlice w Tryz.underlying27 ad 0 cp [] (by simp) (fun j u hj => by simp at hj) (fun u hu => by cases hu)
 | succ n =>
  obtain ⟨g, rfl, hg⟩ := f.resolve_left (by omega)
  exact Src.ofSlice w Tryz.underlying27 _ _ _ _ hl (fun j u hj => by rw [Addr.add_lit, Nat.zero_add]; exact hg j u hj) h1
def RestPost (M B0 : Nat) (w : World) (bw : Nat) (q c : Nat) (e' : Ending) (w' : World) : Prop := e' = .returned (.bool true) ∧ Kept (fun b => B0 ≤ b) w w' ∧ ∃ S', WSt M B0 w' bw S' ∧ WLen S' (q + 1) (c + M)
set_option maxHeartbeats 2000000 in
set_option maxRecDepth 100000 in
theorem rest_any2 {M B0 : Nat} {w : World} {bw : Nat} {S : WS} {i : Nat} {p : PP} {q cc : Nat} (h : WSt M B0 w bw S) (hL : WLen S q cc) (hB : B0 ≤ w.heap.size) (hi : S.ps[i]? = some p) (hM : M ≤ 4294967) (hq : q ≤ 4294967) (hcc : cc ≤ 1099511627776) (a : Option Addr) (c : Nat) (ns : List Int) (hnl : ns.length ≤ 4294967) (hs : IntsG w a ns) (hb : ∀ n ∈ ns, -9223372036854775808 ≤ n ∧ n ≤ 9223372036854775807) :
  Calls Tryz.prog 23 #[.pointer (some ⟨bw, 0, none⟩), .agg #[.pointer (some ⟨p.bx, 0, none⟩), .pointer (some ⟨p.by_, 0, none⟩)], .slice a ns.length c] w (RestPost M B0 w bw q cc) := by
 have hpm := List.mem_of_getElem? hi
 obtain ⟨W0, hW0⟩ : ∃ W, W = w.alloc (.cells #[.pointer (some ⟨p.bx, 0, none⟩), .pointer (some ⟨p.by_, 0, none⟩)] 47) := ⟨_, rfl⟩
 have kW0 : Kept (fun _ => False) w W0 := by rw [hW0]; exact (Kept.refl _ w).alloc _
 have hbx : W0.heap[w.heap.size]? = some (.cells #[.pointer (some ⟨p.bx, 0, none⟩), .pointer (some ⟨p.by_, 0, none⟩)] 47 (0, 0)) := by rw [hW0]; exact heap_alloc_new w _
 have hW0z := lt_of_heap hbx
 obtain ⟨i0, hi0, hz0, hzs, hzb⟩ := info_parts info_int
 obtain ⟨v1, w1, hr1, own1, k1, b1⟩ := append_any Tryz.prog W0 30 30 3 i0 _ 1 8 Tryz.underlying30 hi0 hz0 hzs hzb rfl (by decide) (.slice none 0 0) 0 [] (World.ownsRow_nil _ _ _ _) _ _ _ (src_ints (hs.keep kW0 (fun _ _ _ h => h)) c) (by unfold maxLen; omega) (by omega)
 rw [Nat.zero_add, List.nil_append] at own1
 have k1 : Kept (fun _ => False) W0 w1 := k1.mono (fun k _ h => by simp [Value.ownBlock] at h)
 have b1 : ∀ k, v1.ownBlock = some k → W0.heap.size ≤ k := fun k hk => (b1 k hk).resolve_left (by simp [Value.ownBlock])
 obtain ⟨a1, cp1, e1, _, _⟩ := own_slice own1
 subst e1
 obtain ⟨W1, hW1⟩ : ∃ W, W = w1.alloc (.cells #[.int .i64 (-7), .int .i64 (-7), .int .i64 (-7)] 3) := ⟨_, rfl⟩
 have kW1 : Kept (fun _ => False) w1 W1 := by rw [hW1]; exact (Kept.refl _ w1).alloc _
 have hsrc := src_new W1 w1.heap.size 3 30 Tryz.underlying30 [.int .i64 (-7), .int .i64 (-7), .int .i64 (-7)] (by rw [hW1]; exact heap_alloc_new w1 _) (by intro v hv; simp at hv; subst hv; rfl)
 obtain ⟨v2, w2, hr2, own2, k2, b2⟩ := append_strong Tryz.prog W1 30 30 3 i0 _ 1 8 Tryz.underlying30 hi0 hz0 hzs hzb rfl (by decide) _ _ _ (ownsRow_kept own1 kW1 (fun _ _ h => h)) _ 3 _ hsrc (by decide) (by unfold maxLen; omega) (by omega)
 obtain ⟨a2, cp2, e2, hn2, hm2, f2⟩ := own_cells own2
 obtain ⟨gb, x2, hgb⟩ := f2.resolve_left (by omega)
 subst x2
 subst e2
 have hgbn : w.heap.size < gb := by
  rcases b2 gb rfl with h1 | h1
  ·have := b1 gb h1; omega
  ·have := k1.size; have := kW1.size; omega
 have kw2 : Kept (fun _ => False) w w2 := ((kW0.trans' k1).trans' kW1).trans k2 (fun b hb hs => by have := b1 b hs; have := kW0.size; omega)
 have hgbl : gb < w2.heap.size := (own2.lt gb rfl).2
 have hbx2 : w2.heap[w.heap.size]? = some (.cells #[.pointer (some ⟨p.bx, 0, none⟩), .pointer (some ⟨p.by_, 0, none⟩)] 47 (0, 0)) := k2.heap (kW1.heap (k1.heap hbx (fun h => h)) (fun h => h)) (fun hs => by have := b1 _ hs; omega)
 have G2 := h.quiet kw2
 have hA := G2.peers p hpm
 have hgbA : ∀ (j : Nat) (n : Int), ns[j]? = some n → w2.cell? ⟨gb, j, none⟩ = some (.int .i64 n) := fun j n hj => hgb j _ (by
  rw [List.getElem?_append_left (by simp [intsV]; exact (List.getElem?_eq_some_iff.1 hj).1)]
  show (ns.map _)[j]? = _
  rw [List.getElem?_map, hj]; rfl)
 have hgbS : ∀ d, d < 3 → w2.cell? ⟨gb, ns.length + d, none⟩ = some (.int .i64 (-7)) := fun d hd => hgb _ _ (by
  have e : (intsV ns).length = ns.length := by simp [intsV]
  rw [List.getElem?_append_right (by omega), e, Nat.add_sub_cancel_left]
  rcases d with _ | _ | _ | d
  ·rfl
  ·rfl
  ·rfl
  ·omega)
 have hs2 := hs.keep kw2 (fun _ _ _ h => h)
 obtain ⟨er, ops, ha⟩ := Ans.there p.N ns p.s.log
 have hopsL : ops.length ≤ M := by
  rcases ha with ⟨_, _, _, hm⟩ | ⟨_, _, rfl⟩
  ·rw [hm.length]
   have e1 := total_above (ns.map Int.toNat) p.s.log
   have e2 : total p.s.log = p.s.known.sum := by
    rw [← hA.two.known, ← hA.two.log]
    unfold total RSt.known
    rw [List.map_map]
    congr 1
    exact List.map_congr_left (fun l _ => by simp)
   have e3 := hA.two.few
   unfold ksize at e3
   omega
  ·simp
 have hright : ∀ o ∈ ops, RightOp p.N o := by
  rcases ha with ⟨_, _, _, hm⟩ | ⟨_, _, rfl⟩
  ·intro o ho
   obtain ⟨l, hl, hol⟩ := (hm.mem o).1 ho
   obtain ⟨j, hj⟩ := List.getElem?_of_mem hl
   rw [above_get] at hj
   cases e : p.s.log[j]? with
   | none => rw [e] at hj; cases hj
   | some r =>
    rw [e] at hj
    simp only [Option.map_some, Option.some.injEq] at hj
    subst hj
    exact hA.two.fit.log r (List.mem_of_getElem? e) o (List.mem_of_mem_drop hol)
  ·intro o ho; cases ho
 have hplen : ∀ l ∈ ops.map Ope.packet, 4 < l.length ∧ l.length ≤ 65536 := fun l hl => by
  obtain ⟨o, ho, rfl⟩ := List.mem_map.1 hl
  have h8 := hA.two.fit.n8
  rw [packet_length, (hright o ho).seen]
  split <;> omega
 have hstr : strsV (ops.map Ope.packet) = strsOf ops := by
  unfold strsV strsOf
  rw [List.map_map]; rfl
 have hone : ∀ u ∈ strsOf ops, u.oneCell' = true := fun u hu => by
  unfold strsOf at hu
  obtain ⟨o, _, rfl⟩ := List.mem_map.1 hu
  rfl
 have hstrs : ∀ u ∈ strsOf ops, ∃ S : ByteArray, u = .string S := fun u hu => by
  unfold strsOf at hu
  obtain ⟨o, _, rfl⟩ := List.mem_map.1 hu
  exact ⟨_, rfl⟩
 have hslen : (strsOf ops).length = ops.length := by simp [strsOf]
 have hrc : ∀ wa : World, Kept (fun _ => False) w2 wa → Calls Tryz.prog 36 #[.pointer (some ⟨p.bx, 0, none⟩), .slice (some ⟨gb, 0, none⟩) ns.length cp2] wa (AnsPost wa er ops) := fun wa hk =>
  prest_ans (hA.x.quiet hk) hA.two ns gb cp2 (fun j n hj => hk.cell' (hgbA j n hj) (fun h => h)) hnl ha
 have hrr : ∀ wa : World, Kept (fun _ => False) w2 wa → Calls Tryz.prog 37 #[.pointer (some ⟨p.by_, 0, none⟩), .slice a ns.length c] wa (AnsPost wa er ops) := fun wa hk =>
  rrest_ans (hA.y.keep hk (fun _ _ h => h)) hA.two (by omega) a c ns (hs2.keep hk (fun _ _ _ h => h)) (fun n hn => (hb n hn).2) hnl ha
 have HFRZ : Hid (∃ cur, w2.heap[gb]? = some (.cells cur 3 (0, 0))) := by
  rcases own2.2 with ⟨e, _⟩ | ⟨g', cap', cur', e, _, hg', _⟩
  ·cases e
  ·cases e; exact ⟨cur', hg'⟩
 have HLO : Hid (∀ ad, 0 < ns.length → a = some ad → ad.block ≠ gb) := fun ad h0 had he => by
  obtain ⟨l0, hl0⟩ : ∃ l0, ns[0]? = some l0 := ⟨_, List.getElem?_eq_getElem h0⟩
  obtain ⟨g', off', e, hc⟩ := hs 0 l0 hl0
  rw [had] at e
  cases e
  have h3 : g' < w.heap.size := World.block_lt_of_cell? w _ hc
  have h4 : g' = gb := he
  omega
 have HG2 : Hid (WSt M B0 w2 bw S) := G2
 have HS2 : Hid (IntsG w2 a ns) := hs2
 have HGA : Hid (∀ (j : Nat) (n : Int), ns[j]? = some n → w2.cell? ⟨gb, j, none⟩ = some (.int .i64 n)) := hgbA
 have HGS : Hid (∀ d, d < 3 → w2.cell? ⟨gb, ns.length + d, none⟩ = some (.int .i64 (-7))) := hgbS
 have HWT : Hid (WSt M B0 w bw S ∧ WLen S q cc) := ⟨h, hL⟩
 have HKW : Hid (Kept (fun _ => False) w w2) := kw2
 have HOP : Hid ((∀ l ∈ ops.map Ope.packet, 4 < l.length ∧ l.length ≤ 65536) ∧ strsV (ops.map Ope.packet) = strsOf ops ∧ (∀ u ∈ strsOf ops, u.oneCell' = true) ∧ (∀ u ∈ strsOf ops, ∃ S : ByteArray, u = .string S) ∧ (strsOf ops).length = ops.length) := ⟨hplen, hstr, hone, hstrs, hslen⟩
 have y0 : w2.cell? ⟨w.heap.size, 0, none⟩ = some (.pointer (some ⟨p.bx, 0, none⟩)) := by rw [Lib.cell_of_heap hbx2]; rfl
 have y1 : w2.cell? ⟨w.heap.size, 1, none⟩ = some (.pointer (some ⟨p.by_, 0, none⟩)) := by rw [Lib.cell_of_heap hbx2]; rfl
 have hlm : ns.length ≤ cp2 := by omega
 have hlm1 : (ns.length : Int) ≤ (cp2 : Int) := by omega
 have hln : ns.length ≤ 4294967000 := by omega
 clear h hL hs hs2 hi hpm hA G2 own1 own2 k1 k2 b1 b2 kW0 kW1 hbx hsrc hgb f2 hn2 hm2 hzs hzb hz0 hi0 kw2 hW0z hgbA hgbS hplen hstr hone hstrs hslen hright ha hb
 go_enter Tryz.func23, Tryz.ntmps23
 go_upto_region 1 with fail
 rw [← hW0]
 clear hW0
 go_upto_region 3 with (at_builtin; refine Lib.wpList_append_run _ rfl _ _ _ _ rfl _ _ rfl rfl _ _ (hr1 _) ?_)
 rw [hW1] at hr2
 clear hr1 hW1
 go_upto_region 4 with (at_builtin; refine Lib.wpList_append_run _ rfl _ _ _ _ rfl _ _ rfl rfl _ _ (hr2 _) ?_)
 clear hr2
 go_cut [8, 9] (fun v8 v9 wd => v9 = .int .i64 er ∧ wd.ownsRow 0 9 1 v8 ops.length (strsOf ops) ∧ (∀ b, v8.ownBlock = some b → w2.heap.size ≤ b) ∧ Kept (fun _ => False) w2 wd)
 case first =>
  refine wp_region_byB (by kernel_rfl) _ rfl (by kernel_rfl) (fun iz v wx => match iz with
   | 0 => v = .pointer (some ⟨w.heap.size, 0, none⟩)
   | 1 => v = .pointer (some ⟨p.bx, 0, none⟩)
   | 2 => v = .slice (some ⟨gb, 0, none⟩) (ns.length + 3) cp2
   | 3 => v = .slice a ns.length c
   | 4 => v = .int .i64 (ns.length : Nat)
   | 5 => v = .slice (some ⟨gb, 0, none⟩) ns.length cp2
   | 6 => ∃ pv, v = .tuple #[pv, .int .i64 er] ∧ wx.ownsRow 0 9 1 pv ops.length (strsOf ops) ∧ (∀ b, (pv).ownBlock = some b → w2.heap.size ≤ b)
   | 7 => ∃ pv, v = .tuple #[pv, .int .i64 er] ∧ wx.ownsRow 0 9 1 pv ops.length (strsOf ops) ∧ (∀ b, (pv).ownBlock = some b → w2.heap.size ≤ b)
   | 8 => wx.ownsRow 0 9 1 v ops.length (strsOf ops) ∧ (∀ b, (v).ownBlock = some b → w2.heap.size ≤ b)
   | 9 => v = .int .i64 er
   | 10 => wx.ownsRow 0 9 1 v ops.length (strsOf ops) ∧ (∀ b, (v).ownBlock = some b → w2.heap.size ≤ b)
   | 11 => v = .int .i64 er
   | _ => True) ?_ ?_ ?_
  ·intro i v wa wb hv hk
   split at hv
   case h_7 =>
    obtain ⟨pv, h1, h2, h3⟩ := hv
    exact ⟨pv, h1, ownsRow_kept h2 hk (fun _ _ h => h), h3⟩
   case h_8 =>
    obtain ⟨pv, h1, h2, h3⟩ := hv
    exact ⟨pv, h1, ownsRow_kept h2 hk (fun _ _ h => h), h3⟩
   case h_9 =>
    exact ⟨ownsRow_kept hv.1 hk (fun _ _ h => h), hv.2⟩
   case h_11 =>
    exact ⟨ownsRow_kept hv.1 hk (fun _ _ h => h), hv.2⟩
   all_goals exact hv
  ·intro i o' hi a' wa up
   have hk' := up.kept
   have hkk : Kept (fun _ => False) w2 wa := ((Kept.refl _ w2).drew).trans' hk'
   have u0 := hkk.cell' y0 (fun h => h)
   have hold : ∀ d : Nat, (d = 2 ∨ d = 4 ∨ d = 7) → a'.tmps[d]? = _ := fun d hd => up.old d (by
    intro j oj hj hjd
    exfalso
    rcases j with _ | _ | _ | _ | _ | _ | _ | _ | _ | _ | _ | _ | j <;> simp at hj <;> subst hj <;> simp at hjd <;> omega)
   have o2 := hold 2 (by decide)
   have o4 := hold 4 (by decide)
   have o7 := hold 7 (by decide)
   simp at o2 o4 o7
   clear hold
   rcases i with _ | _ | _ | _ | _ | _ | _ | _ | _ | _ | _ | _ | i
   all_goals simp only [List.getElem?_cons_zero, List.getElem?_cons_succ, List.getElem?_nil, Option.some.injEq, reduceCtorEq] at hi
   all_goals try subst hi
   ·simp [Oper.wp, go_sem, Act.eval, o4]
    exact ⟨_, rfl, rfl, Kept.refl _ _⟩
   ·obtain ⟨_, s0, rfl⟩ := up.d 0 22 rfl rfl
    simp [Oper.wp, go_sem, Act.eval, s0, u0]
    exact ⟨_, rfl, rfl, Kept.refl _ _⟩
   ·simp [Oper.wp, go_sem, Act.eval, o7]
    exact ⟨_, rfl, rfl, Kept.refl _ _⟩
   ·simp [Oper.wp, go_sem, Act.eval, o2]
    exact ⟨_, rfl, rfl, Kept.refl _ _⟩
   ·obtain ⟨_, s3, rfl⟩ := up.d 3 25 rfl rfl
    simp [Oper.wp, go_sem, Act.eval, s3]
    exact ⟨_, rfl, rfl, Kept.refl _ _⟩
   ·obtain ⟨_, s2, rfl⟩ := up.d 2 24 rfl rfl
    obtain ⟨_, s4, rfl⟩ := up.d 4 26 rfl rfl
    simp [Oper.wp, go_sem, Act.eval, s2, s4, hlm, hlm1]
    exact ⟨_, rfl, rfl, Kept.refl _ _⟩
   ·obtain ⟨_, s1, rfl⟩ := up.d 1 23 rfl rfl
    obtain ⟨_, s5, rfl⟩ := up.d 5 27 rfl rfl
    have hkq : Kept (fun _ => False) w2 wa := ((Kept.refl _ w2).drew).trans' hk'
    simp [Oper.wp, go_sem, Act.eval, s1, s5]
    refine (hrc wa hkq).mono ?_
    rintro e' w' ⟨pv, rfl, g1, g2, g3⟩
    exact ⟨_, rfl, ⟨pv, rfl, g1, fun b hb => Nat.le_trans hkq.size (g3 b hb)⟩, g2⟩
   ·obtain ⟨v6, s6, hv6⟩ := up.d 6 28 rfl rfl
    obtain ⟨pv, e6, g1, g2⟩ := hv6
    subst e6
    simp [Oper.wp, go_sem, Act.eval, s6]
    exact ⟨_, rfl, ⟨pv, rfl, g1, g2⟩, Kept.refl _ _⟩
   ·obtain ⟨v7, s7, hv7⟩ := up.d 7 21 rfl rfl
    obtain ⟨pv, e7, g1, g2⟩ := hv7
    subst e7
    simp [Oper.wp, go_sem, Act.eval, s7]
    exact ⟨_, rfl, ⟨g1, g2⟩, Kept.refl _ _⟩
   ·obtain ⟨v7, s7, hv7⟩ := up.d 7 21 rfl rfl
    obtain ⟨pv, e7, g1, g2⟩ := hv7
    subst e7
    simp [Oper.wp, go_sem, Act.eval, s7]
    exact ⟨_, rfl, rfl, Kept.refl _ _⟩
   ·obtain ⟨v8, s8, hv8⟩ := up.d 8 29 rfl rfl
    simp [Oper.wp, go_sem, Act.eval, s8]
    exact ⟨_, rfl, hv8, Kept.refl _ _⟩
   ·obtain ⟨_, s9, rfl⟩ := up.d 9 30 rfl rfl
    simp [Oper.wp, go_sem, Act.eval, s9]
    exact ⟨_, rfl, rfl, Kept.refl _ _⟩
  ·intro vals wz hk hvv
   obtain ⟨g1, g2⟩ := hvv 10 (by decide)
   have h11 : vals 11 = _ := hvv 11 (by decide)
   have hkz : Kept (fun _ => False) w2 wz := ((Kept.refl _ w2).drew).trans' hk
   obtain ⟨v', hv'⟩ : ∃ v', vals 10 = v' := ⟨_, rfl⟩
   rw [hv'] at g1 g2
   have HT : Hid (_ ∧ _ ∧ _) := ⟨g1, g2, hkz⟩
   clear hvv hk g1 g2 hkz
   simp only [putAll, Act.put, hv', h11]
   simp only [Nat.reduceAdd, Nat.zero_add, List.setIfInBounds_toArray, List.set_cons_succ, List.set_cons_zero]
   go_wp2_with fail
   go_meet
   exact ⟨rfl, HT.out⟩
 case rest =>
 obtain ⟨w3, hw3⟩ : ∃ x, x = wc := ⟨_, rfl⟩
 subst hw3
 obtain ⟨rfl, ow3, nw3, K3⟩ := hcut
 obtain ⟨xa, xc, xe, _, _⟩ := own_slice ow3
 subst xe
 have y1' : w3.cell? ⟨w.heap.size, 1, none⟩ = some (.pointer (some ⟨p.by_, 0, none⟩)) := K3.cell' y1 (fun h => h)
 have z1 : w.heap.size < w3.heap.size := World.block_lt_of_cell? w3 _ y1'
 have hrr2 := hrr w3 K3
 have HO3 : Hid (w3.ownsRow 0 9 1 (.slice xa ops.length xc) ops.length (strsOf ops) ∧ (∀ b, (Value.slice xa ops.length xc).ownBlock = some b → w2.heap.size ≤ b) ∧ Kept (fun _ => False) w2 w3) := ⟨ow3, nw3, K3⟩
 clear ow3 nw3 K3 y0 y1 hrr hrc
 go_wp2_with fail
 refine hrr2.mono ?_
 clear hrr2 y1' z1
 rintro e4 w4 ⟨rv, rfl, ow4, K4, nw4⟩
 obtain ⟨ya, yc, ye, _, _⟩ := own_slice ow4
 subst ye
 have K24 : Kept (fun _ => False) w2 w4 := HO3.out.2.2.trans' K4
 have HO4 : Hid (w4.ownsRow 0 9 1 (.slice xa ops.length xc) ops.length (strsOf ops) ∧ w4.ownsRow 0 9 1 (.slice ya ops.length yc) ops.length (strsOf ops) ∧ (∀ b, (Value.slice xa ops.length xc).ownBlock = some b → w2.heap.size ≤ b) ∧ (∀ b, (Value.slice ya ops.length yc).ownBlock = some b → w2.heap.size ≤ b) ∧ Kept (fun _ => False) w2 w4) := ⟨ownsRow_kept HO3.out.1 K4 (fun _ _ h => h), ow4, HO3.out.2.1, fun b hb => Nat.le_trans HO3.out.2.2.size (nw4 b hb), K24⟩
 have HA4 : Hid (∀ (j : Nat) (n : Int), ns[j]? = some n → w4.cell? ⟨gb, j, none⟩ = some (.int .i64 n)) := fun j n hj => K24.cell' (HGA.out j n hj) (fun h => h)
 have HS4 : Hid (IntsG w4 a ns) := HS2.out.keep K24 (fun _ _ _ h => h)
 have HF4 : Hid (∃ cur, w4.heap[gb]? = some (.cells cur 3 (0, 0))) := by
  obtain ⟨cur, hcur⟩ := HFRZ.out
  exact ⟨cur, K24.heap hcur (fun h => h)⟩
 have t0 := K24.cell' (HGS.out 0 (by decide)) (fun h => h)
 have t1 := K24.cell' (HGS.out 1 (by decide)) (fun h => h)
 have t2 := K24.cell' (HGS.out 2 (by decide)) (fun h => h)
 rw [Nat.add_zero] at t0
 have zg4 : gb < w4.heap.size := World.block_lt_of_cell? w4 _ t0
 have i0 : (ns.length : Int) < (ns.length : Int) + 3 := by omega
 have i1 : (ns.length : Int) + 1 < (ns.length : Int) + 3 := by omega
 have i2 : (ns.length : Int) + 2 < (ns.length : Int) + 3 := by omega
 clear K4 K24 ow4 nw4 HGA HGS HS2 HO3
 have hnum := lnum_any
 go_wp2_with fail
 go_loopw [12, 13] (fun wv iv wr => ∃ k : Nat, k ≤ ns.length ∧ iv = .int .i64 k ∧ wv = .bool true ∧ Hid (Kept (fun b => b = gb) w4 wr ∧ (∃ cur, wr.heap[gb]? = some (.cells cur 3 (0, 0))) ∧ ∀ (j : Nat) (n : Int), k ≤ j → ns[j]? = some n → wr.cell? ⟨gb, j, none⟩ = some (.int .i64 n))) (fun _ i _ => ns.length - (intOf i).toNat)
 case atStart => exact ⟨0, Nat.zero_le _, rfl, rfl, Kept.refl _ _, HF4.out, fun j u _ hu => HA4.out j u hu⟩
 case round =>
  clear t0 t1 t2 zg4 i0 i1 i2
  obtain ⟨k, hk, rfl, rfl, HR⟩ := hrel
  obtain ⟨R1, ⟨cur, hcur⟩, R3⟩ := HR.out
  by_cases hlt : k < ns.length
  ·have hki : (k : Int) < (ns.length : Int) := by omega
   have hki3 : (k : Int) < (ns.length : Int) + 3 := by omega
   have hlt3 : k < ns.length + 3 := by omega
   have zg := lt_of_heap hcur
   have HN : Hid (∀ (W : World), Kept (fun _ => False) wr W → ∀ v : Value, Kept (fun b => b = gb) w4 (W.setCell ⟨gb, k, none⟩ v) ∧ (∃ cur, (W.setCell ⟨gb, k, none⟩ v).heap[gb]? = some (.cells cur 3 (0, 0))) ∧ ∀ (j : Nat) (n : Int), k + 1 ≤ j → ns[j]? = some n → (W.setCell ⟨gb, k, none⟩ v).cell? ⟨gb, j, none⟩ = some (.int .i64 n)) := fun W hkW v => by
    have hcW := hkW.heap hcur (fun h => h)
    refine ⟨(R1.none hkW).setCell (p := ⟨gb, k, none⟩) (fun _ => rfl) _, ⟨_, heap_set_same hcW k v⟩, fun j u hj hu => ?_⟩
    have h1 := hkW.cell' (R3 j u (by omega) hu) (fun h => h)
    rw [Lib.cell_of_heap (heap_set_same hcW k v)]
    rw [Lib.cell_of_heap hcW] at h1
    rw [Array.getElem?_setIfInBounds_ne (by omega)]
    exact h1
   have HFZ : Hid (∀ (W : World), Kept (fun _ => False) wr W → (∀ j, W.frozen? ⟨gb, j, none⟩ = false) ∧ gb < W.heap.size ∧ ∃ u, W.cell? ⟨gb, k, none⟩ = some u) := fun W hkW => by
    have hcW := hkW.heap hcur (fun h => h)
    exact ⟨Lib.frozen_of_heap hcW, lt_of_heap hcW, _, hkW.cell' (R3 k _ (Nat.le_refl _) (List.getElem?_eq_getElem hlt)) (fun h => h)⟩
   obtain ⟨n, hn⟩ : ∃ n, ns[k]? = some n := ⟨_, List.getElem?_eq_getElem hlt⟩
   obtain ⟨gl, off, rfl, hc⟩ := HS4.out k n hn
   have cl := R1.cell' hc (HLO.out ⟨gl, off, none⟩ (by omega) rfl)
   have cg : wr.cell? ⟨gb, k, none⟩ = some (.int .i64 n) := R3 k _ (Nat.le_refl _) hn
   have zl : gl < wr.heap.size := World.block_lt_of_cell? wr _ cl
   clear R1 R3 hcur hc hn HR
   go_upto_region 10 with fail
   go_cut [12] (fun v wd => v = .bool true ∧ Kept (fun _ => False) wr wd)
   case first =>
    refine wp_region_byG (by kernel_rfl) _ rfl (by kernel_rfl) (fun iz v wx => match iz with
     | 0 => v = .bool true
     | 1 => v = .bool true
     | 2 => v = .slice (some ⟨gb, 0, none⟩) (ns.length + 3) cp2
     | 3 => v = .int .i64 (k : Nat)
     | 4 => v = .pointer (some ⟨gb, k, none⟩)
     | 5 => v = .int .i64 n
     | 6 => v = .slice (some ⟨gl, off, none⟩) ns.length c
     | 7 => v = .int .i64 (k : Nat)
     | 8 => v = .pointer (some ⟨gl, off + k, none⟩)
     | 9 => v = .int .i64 n
     | 10 => v = .bool true
     | 11 => v = .bool true
     | 12 => v = .bool true
     | _ => True) ?_ ?_ ?_
    ·intro i v wa wb hv hk
     split at hv
     all_goals exact hv
    ·intro i o' hi a' wa up
     have hk' := up.kept
     have hkk : Kept (fun _ => False) wr wa := ((Kept.refl _ wr).drew).trans' hk'
     have u1 := hkk.cell' cg (fun h => h)
     have u2 := hkk.cell' cl (fun h => h)
     have hold : ∀ d : Nat, (d = 2 ∨ d = 7 ∨ d = 13) → a'.tmps[d]? = _ := fun d hd => up.old d (by
      intro j oj hj hjd
      exfalso
      rcases j with _ | _ | _ | _ | _ | _ | _ | _ | _ | _ | _ | _ | _ | j <;> simp at hj <;> subst hj <;> simp at hjd <;> omega)
     have o2 := hold 2 (by decide)
     have o7 := hold 7 (by decide)
     have o13 := hold 13 (by decide)
     simp at o2 o7 o13
     clear hold
     rcases i with _ | _ | _ | _ | _ | _ | _ | _ | _ | _ | _ | _ | _ | i
     all_goals simp only [List.getElem?_cons_zero, List.getElem?_cons_succ, List.getElem?_nil, Option.some.injEq, reduceCtorEq] at hi
     all_goals try subst hi
     ·have o12 : a'.tmps[12]? = _ := up.old 12 (by
       intro j oj hj hjd
       rcases j with _ | _ | _ | _ | _ | _ | _ | _ | _ | _ | _ | _ | _ | j <;> simp at hj <;> subst hj <;> simp at hjd
       right
       exact ⟨⟨0, .phase⟩, by simp, rfl, rfl⟩)
      simp at o12
      left
      refine ⟨by simp [Region.wanted], ?_⟩
      simp [Oper.wp, go_sem, Act.eval, o12]
      exact ⟨_, rfl, rfl, Kept.refl _ _⟩
     ·obtain ⟨_, s0, rfl⟩ := up.d 0 68 rfl rfl
      left
      refine ⟨by simp [Region.wanted], ?_⟩
      simp [Oper.wp, go_sem, Act.eval, s0]
      exact ⟨_, rfl, rfl, Kept.refl _ _⟩
     ·obtain ⟨_, sg, rfl⟩ := up.d 1 69 rfl rfl
      left
      refine ⟨by simp [Region.wanted, yielded, sg], ?_⟩
      simp [Oper.wp, go_sem, Act.eval, o7]
      exact ⟨_, rfl, rfl, Kept.refl _ _⟩
     ·obtain ⟨_, sg, rfl⟩ := up.d 1 69 rfl rfl
      left
      refine ⟨by simp [Region.wanted, yielded, sg], ?_⟩
      simp [Oper.wp, go_sem, Act.eval, o13]
      exact ⟨_, rfl, rfl, Kept.refl _ _⟩
     ·obtain ⟨_, s2, rfl⟩ := up.d 2 70 rfl rfl
      obtain ⟨_, s3, rfl⟩ := up.d 3 71 rfl rfl
      obtain ⟨_, sg, rfl⟩ := up.d 1 69 rfl rfl
      left
      refine ⟨by simp [Region.wanted, yielded, sg], ?_⟩
      simp [Oper.wp, go_sem, Act.eval, s2, s3, hki3, hlt3]
      exact ⟨_, rfl, rfl, Kept.refl _ _⟩
     ·obtain ⟨_, s4, rfl⟩ := up.d 4 72 rfl rfl
      obtain ⟨_, sg, rfl⟩ := up.d 1 69 rfl rfl
      left
      refine ⟨by simp [Region.wanted, yielded, sg], ?_⟩
      simp [Oper.wp, go_sem, Act.eval, s4, u1]
      exact ⟨_, rfl, rfl, Kept.refl _ _⟩
     ·obtain ⟨_, sg, rfl⟩ := up.d 1 69 rfl rfl
      left
      refine ⟨by simp [Region.wanted, yielded, sg], ?_⟩
      simp [Oper.wp, go_sem, Act.eval, o2]
      exact ⟨_, rfl, rfl, Kept.refl _ _⟩
     ·obtain ⟨_, sg, rfl⟩ := up.d 1 69 rfl rfl
      left
      refine ⟨by simp [Region.wanted, yielded, sg], ?_⟩
      simp [Oper.wp, go_sem, Act.eval, o13]
      exact ⟨_, rfl, rfl, Kept.refl _ _⟩
     ·obtain ⟨_, s6, rfl⟩ := up.d 6 74 rfl rfl
      obtain ⟨_, s7, rfl⟩ := up.d 7 75 rfl rfl
      obtain ⟨_, sg, rfl⟩ := up.d 1 69 rfl rfl
      left
      refine ⟨by simp [Region.wanted, yielded, sg], ?_⟩
      simp [Oper.wp, go_sem, Act.eval, s6, s7, hki, hlt]
      exact ⟨_, rfl, rfl, Kept.refl _ _⟩
     ·obtain ⟨_, s8, rfl⟩ := up.d 8 76 rfl rfl
      obtain ⟨_, sg, rfl⟩ := up.d 1 69 rfl rfl
      left
      refine ⟨by simp [Region.wanted, yielded, sg], ?_⟩
      simp [Oper.wp, go_sem, Act.eval, s8, u2]
      exact ⟨_, rfl, rfl, Kept.refl _ _⟩
     ·obtain ⟨_, s5, rfl⟩ := up.d 5 73 rfl rfl
      obtain ⟨_, s9, rfl⟩ := up.d 9 77 rfl rfl
      obtain ⟨_, sg, rfl⟩ := up.d 1 69 rfl rfl
      left
      refine ⟨by simp [Region.wanted, yielded, sg], ?_⟩
      simp [Oper.wp, go_sem, Act.eval, s5, s9]
      exact ⟨_, rfl, rfl, Kept.refl _ _⟩
     ·obtain ⟨_, s1, rfl⟩ := up.d 1 69 rfl rfl
      obtain ⟨_, s10, rfl⟩ := up.d 10 78 rfl rfl
      left
      refine ⟨by simp [Region.wanted], ?_⟩
      simp [Oper.wp, go_sem, Act.eval, s1, s10]
      exact ⟨_, rfl, rfl, Kept.refl _ _⟩
     ·obtain ⟨_, s11, rfl⟩ := up.d 11 79 rfl rfl
      left
      refine ⟨by simp [Region.wanted], ?_⟩
      simp [Oper.wp, go_sem, Act.eval, s11]
      exact ⟨_, rfl, rfl, Kept.refl _ _⟩
    ·intro vals wz hk hvv
     have h12 : vals 12 = _ := hvv 12 (by decide)
     have hk0 : Kept (fun _ => False) wr wz := ((Kept.refl _ wr).drew).trans' hk
     clear hvv
     simp only [putAll, Act.put, h12]
     simp only [Nat.reduceAdd, Nat.zero_add, List.setIfInBounds_toArray, List.set_cons_succ, List.set_cons_zero]
     go_wp2_with fail
     go_meet
     exact ⟨rfl, hk0⟩
   case rest =>
   obtain ⟨rfl, kd⟩ := hcut
   obtain ⟨zf, zz, uu, hzc⟩ := HFZ.out _ kd
   have HN2 : Hid _ := HN.out _ kd (.int .i64 (-9))
   clear HN HFZ kd cl cg zl zg
   go_wp2_with fail
   go_roundw
   case rel => exact ⟨k + 1, by omega, by go_num, rfl, HN2.out⟩
   case measure => simp [intOf]; omega
  ·have hki : ¬ (k : Int) < (ns.length : Int) := by omega
   have hkd : decide ((k : Int) < (ns.length : Int)) = false := by rw [decide_eq_false_iff_not]; exact hki
   have hoff : ∀ b, w2.heap.size ≤ b → b ≠ gb := fun b hb e => by omega
   obtain ⟨o4a, o4b, n4a, n4b, K24⟩ := HO4.out
   have ora := ownsRow_kept o4a R1 (fun b hb => hoff b (n4a b hb))
   have orb := ownsRow_kept o4b R1 (fun b hb => hoff b (n4b b hb))
   have hsame := lsameT_true (strsOf ops) HOP.out.2.2.2.1 (.slice xa ops.length xc) (.slice ya ops.length yc) wr (by rw [HOP.out.2.2.2.2]; exact ora) (by rw [HOP.out.2.2.2.2]; exact orb) (by rw [HOP.out.2.2.2.2]; omega)
   have hall := HWT.out.1.all_lt
   have Gr : WSt M B0 wr bw S := (HG2.out.quiet K24).keep R1 (fun b hb => by
    subst hb
    refine ⟨fun hw => by have := hall.1 _ hw; omega, fun pp hpp hF => by have := hall.2.1 pp hpp _ hF; omega, fun hL => by have := hall.2.2 _ hL; omega⟩)
   have Kwr : Kept (fun b => B0 ≤ b) w wr := ((HKW.out.mono (fun _ _ h => h.elim) : Kept (fun b => B0 ≤ b) w w2).trans' (K24.mono (fun _ _ h => h.elim))).trans' (R1.mono (fun b _ hb => by rw [hb]; omega))
   have HRR : Hid (wr.ownsRow 0 9 1 (.slice xa ops.length xc) ops.length (strsOf ops) ∧ wr.ownsRow 0 9 1 (.slice ya ops.length yc) ops.length (strsOf ops) ∧ (∀ b, (Value.slice xa ops.length xc).ownBlock = some b → w2.heap.size ≤ b) ∧ WSt M B0 wr bw S ∧ Kept (fun b => B0 ≤ b) w wr ∧ w2.heap.size ≤ wr.heap.size) := ⟨ora, orb, n4a, Gr, Kwr, Nat.le_trans K24.size R1.size⟩
   clear R1 R3 hcur o4a o4b n4a n4b K24 ora orb Gr Kwr hall HR
   go_wp2_with fail
   refine hsame.mono ?_
   rintro e5 w5 ⟨rfl, k5⟩
   clear hsame
   obtain ⟨ra, rb, na, Gr, Kwr, sz⟩ := HRR.out
   have G5 := Gr.quiet k5
   have rb5 := ownsRow_kept rb k5 (fun _ _ h => h)
   have ra5 := ownsRow_kept ra k5 (fun _ _ h => h)
   obtain ⟨a1, p1, e1, _, _⟩ := own_slice (G5.core.rows 1 (by decide))
   have e1 : S.vs 1 = .slice a1 S.pks.length p1 := e1
   have c1 := G5.core.cells.2.1
   rw [e1] at c1
   have bz5 := lt_of_heap G5.core.block
   have hrow1 : w5.ownsRow 0 9 1 (.slice a1 S.pks.length p1) S.pks.length (strsV S.pks) := by
    have := G5.core.rows 1 (by decide)
    rw [e1] at this
    exact this
   have hpk := HWT.out.2.pks
   obtain ⟨i0, hi0, hz0, hzs, hzb⟩ := info_parts info_str
   obtain ⟨v6, w6, hr6, own6, k6, n6⟩ := append_any Tryz.prog w5 27 27 9 i0 _ 1 16 Tryz.underlying27 hi0 hz0 hzs hzb rfl (by decide) _ _ _ hrow1 _ _ _ (src_own rb5 HOP.out.2.2.1) (by unfold maxLen; omega) (by omega)
   have hB5 : B0 ≤ w5.heap.size := Nat.le_trans hB (Nat.le_trans Kwr.size k5.size)
   obtain ⟨G6, K6⟩ := G5.addPacks hB5 (ops.map Ope.packet) HOP.out.1 v6 (by rw [e1]; exact k6) (by rw [HOP.out.2.1, List.length_map]; exact own6) (by rw [e1]; exact n6)
   have blk6 := k6.heap G5.core.block (own_ne hrow1 G5.core.block (by decide))
   have f6 : ∀ j, w6.frozen? ⟨bw, j, none⟩ = false := Lib.frozen_of_heap blk6
   have z6 := lt_of_heap blk6
   obtain ⟨u6, c6⟩ : ∃ u, w6.cell? ⟨bw, 1, none⟩ = some u := ⟨_, by rw [Lib.cell_of_heap blk6]; rfl⟩
   obtain ⟨a6, p6, e6, _, _⟩ := own_slice own6
   subst e6
   obtain ⟨W6, hW6⟩ : ∃ W, W = w6.setCell ⟨bw, 1, none⟩ (.slice a6 (S.pks.length + ops.length) p6) := ⟨_, rfl⟩
   rw [← hW6] at G6 K6
   have hfr : ∀ b, (Value.slice xa ops.length xc).ownBlock = some b → ¬ WOwn bw S.vs b ∧ (∀ p ∈ S.ps, ¬ (p.F b ∨ p.G b)) ∧ ¬ LB S b := fun b hb => HG2.out.fresh (na b hb)
   have ra6 : W6.ownsRow 0 9 1 (.slice xa ops.length xc) ops.length (strsOf ops) := ownsRow_kept ra5 K6 (fun b hb => (hfr b hb).1)
   have hoT := ownTexts_any G6 (Nat.le_trans hB5 K6.size) (.slice xa ops.length xc) ops.length (strsOf ops) ra6 (by omega) (fun b hb => by
     obtain ⟨f1, f2, f3⟩ := hfr b hb
     refine ⟨fun ho => ?_, f2, f3⟩
     rcases ho with rfl | ⟨j, hj, hjb⟩
     ·exact f1 (Or.inl rfl)
     ·by_cases hj1 : j = 1
      ·subst hj1
       have hjb : (updF S.vs 1 (.slice a6 (S.pks.length + ops.length) p6) 1).ownBlock = some b := hjb
       rw [updF_same] at hjb
       rcases n6 b hjb with h7 | h7
       ·exact f1 (Or.inr ⟨1, by decide, by rw [e1]; exact h7⟩)
       ·have := (ra5.lt b hb).2
        omega
      ·have hjb : (updF S.vs 1 (.slice a6 (S.pks.length + ops.length) p6) j).ownBlock = some b := hjb
       rw [updF_other _ _ _ _ hj1] at hjb
       exact f1 (Or.inr ⟨j, hj, hjb⟩)) (fun b hb => by have := na b hb; have := HKW.out.size; omega) HWT.out.2.tm (by
     have := HWT.out.2.ts
     show S.ts.length ≤ _
     omega)
   have HK6 : Hid (Kept (fun b => B0 ≤ b) w W6) := ((Kwr.trans' (k5.mono (fun _ _ h => h.elim))).trans K6 (fun b _ ho => G5.new b (Or.inl ho)))
   rw [hW6] at hoT
   have HW6 : Hid (W6 = w6.setCell ⟨bw, 1, none⟩ (.slice a6 (S.pks.length + ops.length) p6)) := hW6
   clear ra rb Gr Kwr G5 rb5 ra5 hrow1 own6 k6 n6 G6 K6 hfr ra6 hi0 hz0 hzs hzb blk6 k5 hW6 e1 na
   go_upto_region 14 with (at_builtin; refine Lib.wpList_append_run _ rfl _ _ _ _ rfl _ _ rfl rfl _ _ (hr6 _) ?_)
   clear hr6 c1
   go_wp2_with fail
   refine hoT.mono ?_
   rintro e7 w7 ⟨rfl, S', H1, H2, H3, H4, H5, H6, H7, H8⟩
   rw [← HW6.out] at H8
   have HFIN : Hid (Kept (fun b => B0 ≤ b) w w7 ∧ ∃ S', WSt M B0 w7 bw S' ∧ WLen S' (q + 1) (cc + M)) := by
    refine ⟨HK6.out.trans' H8, S', H1, ?_⟩
    have hl := HWT.out.2
    have H6 : S'.ts.length = S.ts.length + 4 := H6
    have H7 : S'.ms1.length = S.ms1.length + 4 := H7
    have H4 : S'.ns = S.ns := H4
    have H5 : S'.ms0 = S.ms0 := H5
    have a1 := hl.ps
    have a2 := hl.pks
    have a3 := hl.nm
    have a4 := hl.ns
    have a5 := hl.tm
    have a6 := hl.ts
    refine ⟨by rw [H2]; exact Nat.le_succ_of_le a1, ?_, by rw [H4, H5]; exact a3, by rw [H4]; omega, by omega, by omega⟩
    rw [H3]
    show (S.pks ++ ops.map Ope.packet).length ≤ _
    rw [List.length_append, List.length_map]
    omega
   clear H1 H2 H3 H4 H5 H6 H7 H8 hoT HW6
   go_wp2_with fail
   refine (hnum _ w7).mono ?_
   rintro e8 w8 ⟨rfl, hw8⟩
   subst w8
   go_wp2_with fail
   refine (hnum _ w7).mono ?_
   rintro e9 w9 ⟨rfl, hw9⟩
   subst w9
   go_wp2_with fail
   go_ret
   exact ⟨rfl, HFIN.out⟩
theorem rest_ok : RestOk := fun M B0 w bw S i p q c h hL hB hi hM hq hc a cp ns h1 h2 hnl hs hb ho => rest_any2 h hL hB hi hM hq hc a cp ns hnl hs hb
end Go.Proofs.YtgfafbanahiigaaGreat
