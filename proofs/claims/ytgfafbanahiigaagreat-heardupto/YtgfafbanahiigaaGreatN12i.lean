import Derived.Test.YtgfafbanahiigaaGreatRK
import Derived.Test.YtgfafbanahiigaaGreatNI
set_option linter.unusedVariables false
set_option linter.unusedSimpArgs false
namespace Go.Proofs.YtgfafbanahiigaaGreat
open Go.RowKit Go.Chorus
set_option maxHeartbeats 4000000 in
set_option maxRecDepth 100000 in
theorem rRead_ins (S : ByteArray) (N n : Nat) (rd : Nat → Nat) (r1 : Nat → Nat) (sm : Nat) (w : World) (hN1 : 1 ≤ N) (hN : N ≤ 8) (hn : S.size = n) (hne : n = 23 + 4 * N) (hb : ∀ i, r1 i < 256) (hrb : ∀ i, rd i < 4294967296)
  (hix : ∀ (k : Nat), k < n → ∀ w : World, (Instr.index 9 (.string S) (.int .i64 (k : Int))).run Tryz.prog w = .ok (.int .u8 (r1 k : Nat)) w) (h0 : r1 0 = 1) (hrd : ∀ i, i + 4 ≤ n → readBE (S.extract i (i + 4)).data.toList = rd i) (hsm : sumFrom (S.extract 0 (n - 4)).data.toList 0 = sm) :
  Calls Tryz.prog 66 #[.string S, .int .i64 N] w (RdPost S N n true rd r1 sm w) := by
 obtain ⟨W, hWe⟩ : ∃ W, W = w.alloc (.cells zeroOp 119) := ⟨_, rfl⟩
 have hW : Kept (fun _ => False) w W := by rw [hWe]; exact (Kept.refl _ w).alloc _
 have hres : W.heap[w.heap.size]? = some (.cells zeroOp 119 (0, 0)) := by rw [hWe]; exact heap_alloc_new w _
 have hWs : w.heap.size < W.heap.size := lt_of_heap hres
 have hn27 : 23 ≤ n := by rw [hne]; omega
 have hnle : n ≤ 55 := by rw [hne]; omega
 have HNE : Hid (n = 23 + 4 * N) := hne
 have ix0 := hix 0 (by omega)
 have ix1 := hix 1 (by omega)
 rw [h0] at ix0
 simp only [Int.natCast_zero, Int.natCast_one, Int.cast_ofNat_Int] at ix0 ix1
 have HIX : Hid (∀ (k : Nat), k < n → ∀ w : World, (Instr.index 9 (.string S) (.int .i64 (k : Int))).run Tryz.prog w = .ok (.int .u8 (r1 k : Nat)) w) := hix
 have HRD : Hid (∀ i, i + 4 ≤ n → ∀ w : World, Calls Tryz.prog 92 #[.string (S.extract i (i + 4))] w fun e' w' => e' = .returned (.int .i64 (rd i : Nat)) ∧ w' = w) := fun i hi w => by
  have := rread_any (S.extract i (i + 4)) w (by have := extract_size S i (i + 4); omega)
  rw [hrd i hi] at this
  exact this
 have HSM : Hid (∀ w : World, Calls Tryz.prog 82 #[.string (S.extract 0 (n - 4))] w fun e' w' => e' = .returned (.int .i64 (sm : Nat)) ∧ w' = w) := fun w => by
  have := rsumB_any (S.extract 0 (n - 4)) w (by have := extract_size S 0 (n - 4); omega)
  rw [hsm] at this
  exact this
 have HRB : Hid (∀ i, rd i < 4294967296) := hrb
 have HB : Hid (∀ i, r1 i < 256) := hb
 have rd2 := HRD.out 2 (by omega)
 have rd6 := HRD.out 6 (by omega)
 have hNi : (N : Int) ≤ 8 := by omega
 have hni1 : (23 : Int) ≤ (n : Int) := by omega
 have hni2 : (n : Int) ≤ 55 := by omega
 have hn1 : ¬ (n : Int) < 1 := by omega
 have hb1 := hb 1
 have hbi1 : (r1 1 : Int) < 256 := by omega
 have g5 : ((n : Int) != 10 + 4 * (N : Int) + 5 + 4 + 4) = false := by rw [bne_eq_false_iff_eq, hne]; omega
 have hi6 : (6 : Int) ≤ (n : Int) := by omega
 have hi10 : (10 : Int) ≤ (n : Int) := by omega
 have wr1 : IntKind.i64.wrap (r1 1 : Int) = (r1 1 : Int) := by rw [IntKind.wrap_i64]; omega
 have w1 : (10 + 4 * (N : Int) + 5 + 4 : Int) ≤ 51 := by omega
 clear hix hrd hsm hne h0 hrb hb
 go_enter Tryz.func66, Tryz.ntmps66
 go_upto_region 1 with fail
 rw [show (#[Value.bool false, .int .i64 0, .int .i64 0, .int .i64 0, .slice none 0 0, .int .i64 0, .int .i64 0, .int .i64 0, .string ⟨#[]⟩] : Array Value) = zeroOp from rfl, ← hWe]
 clear hWe
 go_upto_region 4 with fail
 go_cut [7] (fun v wd => ∃ b, v = .pointer (some ⟨b, 0, none⟩) ∧ RdSt w wd b (rdBox true (r1 1) (rd 2) (rd 6) (.slice none 0 0) 0 0 0 S))
 case first =>
  refine wp_region_tailB (by kernel_rfl) 15 _ rfl (by kernel_rfl) (fun _ => False) 14 (fun iz v wx => match iz with
   | 0 => v = .string S
   | 1 => v = .int .u8 1
   | 2 => v = .bool true
   | 3 => v = .string S
   | 4 => v = .int .u8 (r1 1 : Nat)
   | 5 => v = .int .i64 (r1 1 : Nat)
   | 6 => v = .string S
   | 7 => v = .string (S.extract 2 6)
   | 8 => v = .int .i64 (rd 2 : Nat)
   | 9 => v = .string S
   | 10 => v = .string (S.extract 6 10)
   | 11 => v = .int .i64 (rd 6 : Nat)
   | 12 => v = .string S
   | 13 => v = .agg (rdBox true (r1 1) (rd 2) (rd 6) (.slice none 0 0) 0 0 0 S)
   | 14 => ∃ b, v = .pointer (some ⟨b, 0, none⟩) ∧ wx.heap[b]? = some (.cells zeroOp 119 (0, 0)) ∧ W.heap.size ≤ b
   | _ => True) ?_ ?_ ?_ ?_ ?_
  ·intro i v wa wb hv hk
   split at hv
   case h_15 =>
    obtain ⟨b, h1, h2, h3⟩ := hv
    exact ⟨b, h1, hk.heap h2 (fun h => h), h3⟩
   all_goals exact hv
  ·intro i v wa wb hi hv hk
   split at hv
   case h_15 =>
    exact absurd rfl hi
   all_goals exact hv
  ·intro i o' hin his hi a' wa hk' up
   have hkk : Kept (fun _ => False) W wa := ((Kept.refl _ W).drew).trans' hk'
   have hold : ∀ d : Nat, (d = 0) → a'.tmps[d]? = _ := fun d hd => up.old d (by
    intro j oj hj hjd
    exfalso
    rcases j with _ | _ | _ | _ | _ | _ | _ | _ | _ | _ | _ | _ | _ | _ | _ | _ | j <;> simp at hj <;> subst hj <;> simp at hjd <;> omega)
   have o0 := hold 0 (by decide)
   simp at o0
   clear hold
   rcases i with _ | _ | _ | _ | _ | _ | _ | _ | _ | _ | _ | _ | _ | _ | _ | i
   all_goals simp only [List.getElem?_cons_zero, List.getElem?_cons_succ, List.getElem?_nil, Option.some.injEq, reduceCtorEq] at hi
   all_goals try subst hi
   ·simp [Oper.wp, go_sem, Act.eval, o0]
    exact ⟨_, rfl, rfl, Kept.refl _ _⟩
   ·obtain ⟨_, s0, rfl⟩ := up.d 0 55 rfl rfl
    simp [Oper.wp, go_sem, Act.eval, s0, ix0]
    exact ⟨_, rfl, rfl, Kept.refl _ _⟩
   ·obtain ⟨_, s1, rfl⟩ := up.d 1 56 rfl rfl
    simp [Oper.wp, go_sem, Act.eval, s1]
    exact ⟨_, rfl, rfl, Kept.refl _ _⟩
   ·simp [Oper.wp, go_sem, Act.eval, o0]
    exact ⟨_, rfl, rfl, Kept.refl _ _⟩
   ·obtain ⟨_, s3, rfl⟩ := up.d 3 58 rfl rfl
    simp [Oper.wp, go_sem, Act.eval, s3, ix1]
    exact ⟨_, rfl, rfl, Kept.refl _ _⟩
   ·obtain ⟨_, s4, rfl⟩ := up.d 4 59 rfl rfl
    simp [Oper.wp, go_sem, Act.eval, s4, wr1]
    exact ⟨_, rfl, rfl, Kept.refl _ _⟩
   ·simp [Oper.wp, go_sem, Act.eval, o0]
    exact ⟨_, rfl, rfl, Kept.refl _ _⟩
   ·obtain ⟨_, s6, rfl⟩ := up.d 6 61 rfl rfl
    simp [Oper.wp, go_sem, Act.eval, s6, hn, hi6]
    exact ⟨_, rfl, rfl, Kept.refl _ _⟩
   ·obtain ⟨_, s7, rfl⟩ := up.d 7 62 rfl rfl
    simp [Oper.wp, go_sem, Act.eval, s7]
    refine (rd2 wa).mono ?_
    rintro e' w' ⟨rfl, rfl⟩
    exact ⟨_, rfl, rfl, Kept.refl _ _⟩
   ·simp [Oper.wp, go_sem, Act.eval, o0]
    exact ⟨_, rfl, rfl, Kept.refl _ _⟩
   ·obtain ⟨_, s9, rfl⟩ := up.d 9 64 rfl rfl
    simp [Oper.wp, go_sem, Act.eval, s9, hn, hi10]
    exact ⟨_, rfl, rfl, Kept.refl _ _⟩
   ·obtain ⟨_, s10, rfl⟩ := up.d 10 65 rfl rfl
    simp [Oper.wp, go_sem, Act.eval, s10]
    refine (rd6 wa).mono ?_
    rintro e' w' ⟨rfl, rfl⟩
    exact ⟨_, rfl, rfl, Kept.refl _ _⟩
   ·simp [Oper.wp, go_sem, Act.eval, o0]
    exact ⟨_, rfl, rfl, Kept.refl _ _⟩
   ·obtain ⟨_, s2, rfl⟩ := up.d 2 57 rfl rfl
    obtain ⟨_, s5, rfl⟩ := up.d 5 60 rfl rfl
    obtain ⟨_, s8, rfl⟩ := up.d 8 63 rfl rfl
    obtain ⟨_, s11, rfl⟩ := up.d 11 66 rfl rfl
    obtain ⟨_, s12, rfl⟩ := up.d 12 67 rfl rfl
    simp [Oper.wp, go_sem, Act.eval, rdBox, s2, s5, s8, s11, s12]
    exact ⟨_, rfl, rfl, Kept.refl _ _⟩
   ·exact absurd rfl his
   ·omega
  ·intro o' _ ho a' wa hk' up
   have hkk : Kept (fun _ => False) W wa := ((Kept.refl _ W).drew).trans' hk'
   simp only [List.getElem?_cons_zero, List.getElem?_cons_succ, List.getElem?_nil, Option.some.injEq, reduceCtorEq] at ho
   subst ho
   simp [Oper.wp, go_sem, Act.eval]
   exact ⟨_, rfl, ⟨_, rfl, heap_alloc_new wa _, hkk.size⟩, (Kept.refl _ _).alloc _⟩
  ·intro vals wz hk hvv
   have h13 : vals 13 = _ := hvv 13 (by decide)
   obtain ⟨b, h14, hbb, hbW⟩ := hvv 14 (by decide)
   have hkz : Kept (fun _ => False) W wz := ((Kept.refl _ W).drew).trans' hk
   have zb := lt_of_heap hbb
   have zf : ∀ j, wz.frozen? ⟨b, j, none⟩ = false := Lib.frozen_of_heap hbb
   have R0 : RdSt w wz b zeroOp := ⟨hkz.heap hres (fun h => h), hbb, Nat.lt_of_lt_of_le hWs hbW, hW.trans' hkz⟩
   have y0 : wz.cell? ⟨b, 0, none⟩ = some (.bool false) := by rw [Lib.cell_of_heap hbb]; rfl
   have y1 : wz.cell? ⟨b, 1, none⟩ = some (.int .i64 0) := by rw [Lib.cell_of_heap hbb]; rfl
   have y2 : wz.cell? ⟨b, 2, none⟩ = some (.int .i64 0) := by rw [Lib.cell_of_heap hbb]; rfl
   have y3 : wz.cell? ⟨b, 3, none⟩ = some (.int .i64 0) := by rw [Lib.cell_of_heap hbb]; rfl
   have y4 : wz.cell? ⟨b, 4, none⟩ = some (.slice none 0 0) := by rw [Lib.cell_of_heap hbb]; rfl
   have y5 : wz.cell? ⟨b, 5, none⟩ = some (.int .i64 0) := by rw [Lib.cell_of_heap hbb]; rfl
   have y6 : wz.cell? ⟨b, 6, none⟩ = some (.int .i64 0) := by rw [Lib.cell_of_heap hbb]; rfl
   have y7 : wz.cell? ⟨b, 7, none⟩ = some (.int .i64 0) := by rw [Lib.cell_of_heap hbb]; rfl
   have y8 : wz.cell? ⟨b, 8, none⟩ = some (.string ⟨#[]⟩) := by rw [Lib.cell_of_heap hbb]; rfl
   have R1 := R0.set (Kept.refl _ _) 0 (.bool true)
   have R2 := R1.set (Kept.refl _ _) 1 (.int .i64 (r1 1 : Nat))
   have R3 := R2.set (Kept.refl _ _) 2 (.int .i64 (rd 2 : Nat))
   have R4 := R3.set (Kept.refl _ _) 3 (.int .i64 (rd 6 : Nat))
   have R5 := R4.set (Kept.refl _ _) 4 (.slice none 0 0)
   have R6 := R5.set (Kept.refl _ _) 5 (.int .i64 0)
   have R7 := R6.set (Kept.refl _ _) 6 (.int .i64 0)
   have R8 := R7.set (Kept.refl _ _) 7 (.int .i64 0)
   have R9 := R8.set (Kept.refl _ _) 8 (.string S)
   have HE : Hid _ := R9
   clear hvv hk hkz hbb hbW R0 R1 R2 R3 R4 R5 R6 R7 R8 R9
   simp only [List.take_succ_cons, List.take_zero, List.drop_succ_cons, List.drop_zero, putAll, Act.put, h13, h14]
   simp only [Nat.reduceAdd, Nat.zero_add, List.setIfInBounds_toArray, List.set_cons_succ, List.set_cons_zero, rdBox]
   go_wp2_with fail
   go_meet
   exact ⟨b, rfl, HE.out⟩
 case rest =>
 obtain ⟨b, rfl, HR0⟩ := hcut
 have HR : Hid (RdSt w wc b (rdBox true (r1 1) (rd 2) (rd 6) (.slice none 0 0) 0 0 0 S)) := HR0
 clear HR0 ix0 ix1 rd2 rd6 hi6 hi10 g5 w1 hres
 go_wp2
 go_loopw [8] (fun i wr => ∃ k : Nat, k ≤ N ∧ i = .int .i64 k ∧ Hid (∃ sv, RdSt w wr b (rdBox true (r1 1) (rd 2) (rd 6) sv 0 0 0 S) ∧ IntsAt wr sv ((List.range k).map fun i => rd (10 + 4 * i)) ∧ ∀ x, sv.ownBlock = some x → w.heap.size < x ∧ x ≠ b)) (fun i _ => N - (intOf i).toNat)
 case atStart => exact ⟨0, Nat.zero_le _, rfl, _, HR.out, IntsAt.nil _, fun x hx => by simp [Value.ownBlock] at hx⟩
 case round =>
  obtain ⟨k, hk, rfl, HL⟩ := hrel
  by_cases hlt : k < N
  ·have hlt2 : (k : Int) < (N : Int) := by omega
   obtain ⟨sv, B1, B2, B3⟩ := HL.out
   obtain ⟨sa, sc, sve, _, _⟩ := own_slice B2
   subst sve
   have y4 : wr.cell? ⟨b, 4, none⟩ = some (.slice sa _ sc) := (Lib.cell_of_heap B1.box 4).trans rfl
   have zb := lt_of_heap B1.box
   have zf : ∀ j, wr.frozen? ⟨b, j, none⟩ = false := Lib.frozen_of_heap B1.box
   have hrdk := HRD.out (10 + 4 * k) (by rw [HNE.out]; omega)
   have hkk : (14 + 4 * (k : Int)) ≤ (n : Int) := by rw [HNE.out]; omega
   have hk0 : (0 : Int) ≤ 10 + 4 * (k : Int) := by omega
   obtain ⟨l, hl⟩ : ∃ l, l = (List.range k).map fun i => rd (10 + 4 * i) := ⟨_, rfl⟩
   rw [← hl] at B2 y4
   have hll : l.length = k := by rw [hl]; simp
   obtain ⟨v', w2, hr, I2, K2, N2⟩ := B2.one (rd (10 + 4 * k)) (by omega)
   rw [← hl] at B3
   rw [hll] at hr y4 K2 N2 B3
   obtain ⟨sa', sc', sve', _, _⟩ := own_slice I2
   subst sve'
   have hll' : (l ++ [rd (10 + 4 * k)]).length = k + 1 := by simp [hll]
   rw [hll'] at hr I2 N2
   have K2' : Kept (fun x => w.heap.size < x ∧ x ≠ b) wr w2 := K2.mono (fun x _ hx => B3 x hx)
   have y4' : w2.cell? ⟨b, 4, none⟩ = some (.slice sa k sc) := K2'.cell' y4 (fun h => h.2 rfl)
   have zb' : b < w2.heap.size := Nat.lt_of_lt_of_le zb K2'.size
   have zf' : ∀ j, w2.frozen? ⟨b, j, none⟩ = false := Lib.frozen_of_heap (K2'.heap B1.box (fun h => h.2 rfl))
   have HN : Hid (∃ sv, RdSt w (w2.setCell ⟨b, 4, none⟩ (.slice sa' (k + 1) sc')) b (rdBox true (r1 1) (rd 2) (rd 6) sv 0 0 0 S) ∧ IntsAt (w2.setCell ⟨b, 4, none⟩ (.slice sa' (k + 1) sc')) sv ((List.range (k + 1)).map fun i => rd (10 + 4 * i)) ∧ ∀ x, sv.ownBlock = some x → w.heap.size < x ∧ x ≠ b) := by
    have hvb : ∀ x, (Value.slice sa' (k + 1) sc').ownBlock = some x → w.heap.size < x ∧ x ≠ b := fun x hx => by
     rcases N2 x hx with h1 | h1
     ·exact B3 x h1
     ·have := B1.hb; omega
    refine ⟨_, B1.set K2' 4 _, ?_, hvb⟩
    rw [List.range_succ, List.map_append, ← hl]
    exact I2.kept (Kept.setCell (S := fun x => x = b) (Kept.refl _ w2) (p := ⟨b, 4, none⟩) (fun _ => rfl) _) (fun x hx e => (hvb x hx).2 e)
   have hrdk' : ∀ w : World, Calls Tryz.prog 92 #[.string (S.extract (10 + 4 * k) (14 + 4 * k))] w fun e' w' => e' = .returned (.int .i64 (rd (10 + 4 * k) : Nat)) ∧ w' = w := fun w => by
    have := hrdk w
    rw [show 10 + 4 * k + 4 = 14 + 4 * k from by omega] at this
    exact this
   clear hrdk HL B1 B2 B3 hl hll I2 K2 N2 K2'
   go_wp2_with fail
   refine (hrdk' wr).mono ?_
   rintro e1 w1 ⟨rfl, rfl⟩
   clear hrdk'
   go_wp2_with (at_builtin; refine Lib.wpList_append_run _ rfl _ _ _ _ rfl _ _ rfl rfl _ _ (hr _) ?_)
   go_roundw
   case rel => exact ⟨k + 1, by omega, by go_num, HN.out⟩
   case measure => simp [intOf]; omega
  ·have hke : k = N := by omega
   have HL2 := HL.out
   rw [hke] at HL2
   clear hke
   obtain ⟨sv, B1, B2, B3⟩ := HL2
   have hlt2 : ¬ (k : Int) < (N : Int) := by omega
   obtain ⟨nc, hnc⟩ : ∃ nc, rd (10 + 4 * N) = nc := ⟨_, rfl⟩
   obtain ⟨np, hnp⟩ : ∃ np, r1 (14 + 4 * N) = np := ⟨_, rfl⟩
   have hnp1 : np < 256 := by rw [← hnp]; exact HB.out _
   have rdn := HRD.out (10 + 4 * N) (by rw [HNE.out]; omega)
   rw [hnc] at rdn
   have ixn := HIX.out (14 + 4 * N) (by rw [HNE.out]; omega)
   rw [hnp] at ixn
   have HNC : Hid (rd (10 + 4 * N) = nc ∧ r1 (14 + 4 * N) = np) := ⟨hnc, hnp⟩
   clear hnc hnp
   rw [show (((14 + 4 * N : Nat)) : Int) = 10 + 4 * (N : Int) + 4 from by omega] at ixn
   have wA : IntKind.i64.wrap (10 + 4 * (N : Int) + 4) = 10 + 4 * (N : Int) + 4 := by rw [IntKind.wrap_i64]; omega
   have wB : IntKind.i64.wrap (np : Int) = (np : Int) := by rw [IntKind.wrap_i64]; omega
   have hs1 : 10 + 4 * (N : Int) + 4 ≤ (n : Int) := by rw [HNE.out]; omega
   have hs2 : (0 : Int) ≤ 10 + 4 * (N : Int) + 4 := by omega
   have hs3 : (0 : Int) ≤ 10 + 4 * (N : Int) := by omega
   have hs4 : 10 + 4 * (N : Int) ≤ 10 + 4 * (N : Int) + 4 := by omega
   have hs5 : (10 + 4 * (N : Int)).toNat = 10 + 4 * N := by omega
   have hs6 : (10 + 4 * (N : Int) + 4).toNat = 10 + 4 * N + 4 := by omega
   have HB1 : Hid (RdSt w wr b (rdBox true (r1 1) (rd 2) (rd 6) sv 0 0 0 S)) := B1
   have HB2 : Hid (IntsAt wr sv ((List.range N).map fun i => rd (10 + 4 * i)) ∧ ∀ x, sv.ownBlock = some x → w.heap.size < x ∧ x ≠ b) := ⟨B2, B3⟩
   clear HL B1 B2 B3 HR
   go_upto_region 11 with fail
   go_cut [10] (fun v wd => v = .int .i64 (10 + 4 * (N : Int)) ∧ RdSt w wd b (rdBox true (r1 1) (rd 2) (rd 6) sv nc np 0 S) ∧ Kept (fun x => x = b) wr wd)
   case first =>
    refine wp_region_tailB (by kernel_rfl) 13 _ rfl (by kernel_rfl) (fun _ => False) 12 (fun iz v wx => match iz with
     | 0 => v = .string S
     | 1 => v = .int .i64 (10 + 4 * (N : Int))
     | 2 => v = .int .i64 (10 + 4 * (N : Int))
     | 3 => v = .int .i64 (10 + 4 * (N : Int) + 4)
     | 4 => v = .string (S.extract (10 + 4 * N) (10 + 4 * N + 4))
     | 5 => v = .int .i64 (nc : Nat)
     | 6 => v = .string S
     | 7 => v = .int .i64 (10 + 4 * (N : Int))
     | 8 => v = .int .i64 (10 + 4 * (N : Int) + 4)
     | 9 => v = .int .u8 (np : Nat)
     | 10 => v = .int .i64 (np : Nat)
     | 11 => v = .agg #[.int .i64 (nc : Nat), .int .i64 (np : Nat)]
     | 12 => v = .pointer (some ⟨b, 5, none⟩)
     | _ => True) ?_ ?_ ?_ ?_ ?_
    ·intro i v wa wb hv hk
     split at hv
     all_goals exact hv
    ·intro i v wa wb hi hv hk
     split at hv
     case h_13 =>
      exact absurd rfl hi
     all_goals exact hv
    ·intro i o' hin his hi a' wa hk' up
     have hkk : Kept (fun _ => False) wr wa := ((Kept.refl _ wr).drew).trans' hk'
     have hold : ∀ d : Nat, (d = 0 ∨ d = 7 ∨ d = 10) → a'.tmps[d]? = _ := fun d hd => up.old d (by
      intro j oj hj hjd
      exfalso
      rcases j with _ | _ | _ | _ | _ | _ | _ | _ | _ | _ | _ | _ | _ | _ | j <;> simp at hj <;> subst hj <;> simp at hjd <;> omega)
     have o0 := hold 0 (by decide)
     have o7 := hold 7 (by decide)
     have o10 := hold 10 (by decide)
     simp at o0 o7 o10
     clear hold
     rcases i with _ | _ | _ | _ | _ | _ | _ | _ | _ | _ | _ | _ | _ | i
     all_goals simp only [List.getElem?_cons_zero, List.getElem?_cons_succ, List.getElem?_nil, Option.some.injEq, reduceCtorEq] at hi
     all_goals try subst hi
     ·simp [Oper.wp, go_sem, Act.eval, o0]
      exact ⟨_, rfl, rfl, Kept.refl _ _⟩
     ·simp [Oper.wp, go_sem, Act.eval, o10]
      exact ⟨_, rfl, rfl, Kept.refl _ _⟩
     ·simp [Oper.wp, go_sem, Act.eval, o10]
      exact ⟨_, rfl, rfl, Kept.refl _ _⟩
     ·obtain ⟨_, s2, rfl⟩ := up.d 2 94 rfl rfl
      simp [Oper.wp, go_sem, Act.eval, s2, wA]
      exact ⟨_, rfl, rfl, Kept.refl _ _⟩
     ·obtain ⟨_, s0, rfl⟩ := up.d 0 92 rfl rfl
      obtain ⟨_, s1, rfl⟩ := up.d 1 93 rfl rfl
      obtain ⟨_, s3, rfl⟩ := up.d 3 95 rfl rfl
      simp [Oper.wp, go_sem, Act.eval, hn, hs1, hs2, hs3, hs4, hs5, hs6, s0, s1, s3]
      exact ⟨_, rfl, rfl, Kept.refl _ _⟩
     ·obtain ⟨_, s4, rfl⟩ := up.d 4 96 rfl rfl
      simp [Oper.wp, go_sem, Act.eval, s4]
      refine (rdn wa).mono ?_
      rintro e' w' ⟨rfl, rfl⟩
      exact ⟨_, rfl, rfl, Kept.refl _ _⟩
     ·simp [Oper.wp, go_sem, Act.eval, o0]
      exact ⟨_, rfl, rfl, Kept.refl _ _⟩
     ·simp [Oper.wp, go_sem, Act.eval, o10]
      exact ⟨_, rfl, rfl, Kept.refl _ _⟩
     ·obtain ⟨_, s7, rfl⟩ := up.d 7 99 rfl rfl
      simp [Oper.wp, go_sem, Act.eval, s7, wA]
      exact ⟨_, rfl, rfl, Kept.refl _ _⟩
     ·obtain ⟨_, s6, rfl⟩ := up.d 6 98 rfl rfl
      obtain ⟨_, s8, rfl⟩ := up.d 8 100 rfl rfl
      simp [Oper.wp, go_sem, Act.eval, s6, s8, ixn]
      exact ⟨_, rfl, rfl, Kept.refl _ _⟩
     ·obtain ⟨_, s9, rfl⟩ := up.d 9 101 rfl rfl
      simp [Oper.wp, go_sem, Act.eval, s9, wB]
      exact ⟨_, rfl, rfl, Kept.refl _ _⟩
     ·obtain ⟨_, s5, rfl⟩ := up.d 5 97 rfl rfl
      obtain ⟨_, s10, rfl⟩ := up.d 10 102 rfl rfl
      simp [Oper.wp, go_sem, Act.eval, s5, s10]
      exact ⟨_, rfl, rfl, Kept.refl _ _⟩
     ·exact absurd rfl his
     ·omega
    ·intro o' _ ho a' wa hk' up
     have hkk : Kept (fun _ => False) wr wa := ((Kept.refl _ wr).drew).trans' hk'
     simp only [List.getElem?_cons_zero, List.getElem?_cons_succ, List.getElem?_nil, Option.some.injEq, reduceCtorEq] at ho
     subst ho
     have o7 : a'.tmps[7]? = _ := up.old 7 (by
      intro j oj hj hjd
      exfalso
      rcases j with _ | _ | _ | _ | _ | _ | _ | _ | _ | _ | _ | _ | _ | _ | j <;> simp at hj <;> subst hj <;> simp at hjd <;> omega)
     simp at o7
     simp [Oper.wp, go_sem, Act.eval, o7]
     exact ⟨_, rfl, rfl, Kept.refl _ _⟩
    ·intro vals wz hk hvv
     have h11 : vals 11 = _ := hvv 11 (by decide)
     have h12 : vals 12 = _ := hvv 12 (by decide)
     have hkz : Kept (fun _ => False) wr wz := ((Kept.refl _ wr).drew).trans' hk
     have R0 := HB1.out.quiet hkz
     have zb := lt_of_heap R0.box
     have zf : ∀ j, wz.frozen? ⟨b, j, none⟩ = false := Lib.frozen_of_heap R0.box
     have y5 : wz.cell? ⟨b, 5, none⟩ = some (.int .i64 0) := by rw [Lib.cell_of_heap R0.box]; rfl
     have y6 : wz.cell? ⟨b, 6, none⟩ = some (.int .i64 0) := by rw [Lib.cell_of_heap R0.box]; rfl
     have R1 := (R0.set (Kept.refl _ _) 5 (.int .i64 (nc : Nat))).set (Kept.refl _ _) 6 (.int .i64 (np : Nat))
     have HE : Hid (RdSt w ((wz.setCell ⟨b, 5, none⟩ (.int .i64 (nc : Nat))).setCell ⟨b, 6, none⟩ (.int .i64 (np : Nat))) b (rdBox true (r1 1) (rd 2) (rd 6) sv nc np 0 S) ∧ Kept (fun x => x = b) wr ((wz.setCell ⟨b, 5, none⟩ (.int .i64 (nc : Nat))).setCell ⟨b, 6, none⟩ (.int .i64 (np : Nat)))) := ⟨R1, Kept.setCell (S := fun x => x = b) (Kept.setCell (S := fun x => x = b) (hkz.mono (fun _ _ h => h.elim)) (p := ⟨b, 5, none⟩) (fun _ => rfl) _) (p := ⟨b, 6, none⟩) (fun _ => rfl) _⟩
     clear hvv hk hkz R0 R1
     simp only [List.take_succ_cons, List.take_zero, List.drop_succ_cons, List.drop_zero, putAll, Act.put, h11, h12]
     simp only [Nat.reduceAdd, Nat.zero_add, List.setIfInBounds_toArray, List.set_cons_succ, List.set_cons_zero]
     go_wp2_with fail
     go_meet
     exact ⟨rfl, HE.out⟩
   case rest =>
   obtain ⟨w2, hw2⟩ : ∃ x, x = wc := ⟨_, rfl⟩
   subst hw2
   obtain ⟨rfl, R1, K1⟩ := hcut
   have B2 : IntsAt w2 sv ((List.range N).map fun i => rd (10 + 4 * i)) := HB2.out.1.kept K1 (fun x hx e => (HB2.out.2 x hx).2 e)
   obtain ⟨g, cp, cur, hsv, hg, hcur⟩ := ints_block B2 (by simp; omega)
   rw [List.length_map, List.length_range] at hsv
   subst hsv
   have hgs : w.heap.size < g := (HB2.out.2 g rfl).1
   have HC : Hid (w2.heap[g]? = some (.cells cur 3 (0, 0)) ∧ (∀ i, i < N → cur[i]? = some (.int .i64 (rd (10 + 4 * i)))) ∧ w.heap.size < g ∧ g ≠ b) := ⟨hg, fun i hi => hcur i _ (by rw [List.getElem?_map, List.getElem?_range hi]; rfl), hgs, (HB2.out.2 g rfl).2⟩
   have HR1 : Hid (RdSt w w2 b (rdBox true (r1 1) (rd 2) (rd 6) (.slice (some ⟨g, 0, none⟩) N cp) nc np 0 S)) := R1
   obtain ⟨x0, x1, x2, x3, x4, x5, x6, x7, x8⟩ := cells9 R1.box
   have zb := lt_of_heap R1.box
   have zg := lt_of_heap hg
   have hrd2 := HRB.out 2
   obtain ⟨z2, hz2⟩ : ∃ z : Int, ((rd 2 : Nat) : Int) = z := ⟨_, rfl⟩
   obtain ⟨z6, hz6⟩ : ∃ z : Int, ((rd 6 : Nat) : Int) = z := ⟨_, rfl⟩
   have HZ : Hid (((rd 2 : Nat) : Int) = z2 ∧ ((rd 6 : Nat) : Int) = z6) := ⟨hz2, hz6⟩
   rw [hz2] at x2
   rw [hz6] at x3
   clear R1 K1 B2 hg hcur hgs HB1 HB2 rdn ixn x7 x8
   go_upto_region 12 with fail
   obtain ⟨e1, HE1⟩ : ∃ e : Bool, Hid (e = decide ((N : Int) ≤ (r1 1 : Int))) := ⟨_, rfl⟩
   obtain ⟨a2, HA2⟩ : ∃ e : Bool, Hid (e = decide (z2 < 1)) := ⟨_, rfl⟩
   obtain ⟨a3, HA3⟩ : ∃ e : Bool, Hid (e = decide (z6 < 1)) := ⟨_, rfl⟩
   obtain ⟨ro, HRO⟩ : ∃ r : Nat, Hid (r = rd (10 + 4 * r1 1)) := ⟨_, rfl⟩
   obtain ⟨a4, HA4⟩ : ∃ e : Bool, Hid (e = ((ro : Int) != z2 - 1)) := ⟨_, rfl⟩
   obtain ⟨a5, HA5⟩ : ∃ e : Bool, Hid (e = decide ((N : Int) ≤ (np : Int))) := ⟨_, rfl⟩
   obtain ⟨e2, HE2⟩ : ∃ e : Bool, Hid (e = (e1 || a2)) := ⟨_, rfl⟩
   obtain ⟨e3, HE3⟩ : ∃ e : Bool, Hid (e = (e2 || a3)) := ⟨_, rfl⟩
   obtain ⟨e4, HE4⟩ : ∃ e : Bool, Hid (e = (e3 || a4)) := ⟨_, rfl⟩
   obtain ⟨e5, HE5⟩ : ∃ e : Bool, Hid (e = (e4 || a5)) := ⟨_, rfl⟩
   have HQ1 : Hid (e3 = false → r1 1 < N) := fun h => by
    have h1 := HE3.out
    rw [HE2.out, HE1.out, h] at h1
    by_cases q : (N : Int) ≤ (r1 1 : Int)
    ·rw [decide_eq_true q] at h1; simp at h1
    ·omega
   have HQ : Hid (e5 = false ↔ (r1 1 < N ∧ 1 ≤ rd 2 ∧ 1 ≤ rd 6 ∧ rd (10 + 4 * r1 1) + 1 = rd 2 ∧ np < N)) := by
    show _ ↔ _
    rw [HE5.out, HE4.out, HE3.out, HE2.out, HE1.out, HA2.out, HA3.out, HA4.out, HA5.out, HRO.out]
    simp only [Bool.or_eq_false_iff, decide_eq_false_iff_not, bne_eq_false_iff_eq]
    rw [← hz2, ← hz6]
    omega
   have hwo : IntKind.i64.wrap (z2 - 1) = z2 - 1 := by rw [IntKind.wrap_i64, ← hz2]; omega
   clear hz2 hz6
   go_cut [137] (fun v wd => Kept (fun _ => False) w2 wd ∧ v = .bool e5)
   case first =>
    refine wp_region_byG (by kernel_rfl) _ rfl (by kernel_rfl) (fun iz v wx => match iz with
     | 0 => v = .pointer (some ⟨b, 1, none⟩)
     | 1 => v = .int .i64 (r1 1 : Nat)
     | 2 => v = .int .i64 (N : Nat)
     | 3 => v = .bool e1
     | 4 => v = .bool e1
     | 5 => e1 = false → v = .pointer (some ⟨b, 2, none⟩)
     | 6 => e1 = false → v = .int .i64 z2
     | 7 => e1 = false → v = .bool a2
     | 8 => v = .bool e2
     | 9 => v = .bool e2
     | 10 => e2 = false → v = .pointer (some ⟨b, 3, none⟩)
     | 11 => e2 = false → v = .int .i64 z6
     | 12 => e2 = false → v = .bool a3
     | 13 => v = .bool e3
     | 14 => v = .bool e3
     | 15 => e3 = false → v = .pointer (some ⟨b, 4, none⟩)
     | 16 => e3 = false → v = .slice (some ⟨g, 0, none⟩) N cp
     | 17 => e3 = false → v = .pointer (some ⟨b, 1, none⟩)
     | 18 => e3 = false → v = .int .i64 (r1 1 : Nat)
     | 19 => e3 = false → v = .pointer (some ⟨g, r1 1, none⟩)
     | 20 => e3 = false → v = .int .i64 (ro : Nat)
     | 21 => e3 = false → v = .pointer (some ⟨b, 2, none⟩)
     | 22 => e3 = false → v = .int .i64 z2
     | 23 => e3 = false → v = .int .i64 (z2 - 1)
     | 24 => e3 = false → v = .bool a4
     | 25 => v = .bool e4
     | 26 => v = .bool e4
     | 27 => e4 = false → v = .pointer (some ⟨b, 5, none⟩)
     | 28 => e4 = false → v = .pointer (some ⟨b, 6, none⟩)
     | 29 => e4 = false → v = .int .i64 (np : Nat)
     | 30 => e4 = false → v = .int .i64 (N : Nat)
     | 31 => e4 = false → v = .bool a5
     | 32 => v = .bool e5
     | _ => True) ?_ ?_ ?_
    ·intro i v wa wb hv hk
     split at hv
     all_goals exact hv
    ·intro i o' hi a' wa up
     have hk' := up.kept
     have hkk : Kept (fun _ => False) w2 wa := ((Kept.refl _ w2).drew).trans' hk'
     have u1 := hkk.cell' x1 (fun h => h)
     have u2 := hkk.cell' x2 (fun h => h)
     have u3 := hkk.cell' x3 (fun h => h)
     have u4 := hkk.cell' x4 (fun h => h)
     have u6 := hkk.cell' x6 (fun h => h)
     have hold : ∀ d : Nat, (d = 1 ∨ d = 7) → a'.tmps[d]? = _ := fun d hd => up.old d (by
      intro j oj hj hjd
      exfalso
      rcases j with _ | _ | _ | _ | _ | _ | _ | _ | _ | _ | _ | _ | _ | _ | _ | _ | _ | _ | _ | _ | _ | _ | _ | _ | _ | _ | _ | _ | _ | _ | _ | _ | _ | j <;> simp at hj <;> subst hj <;> simp at hjd <;> omega)
     have o1 := hold 1 (by decide)
     have o7 := hold 7 (by decide)
     simp at o1 o7
     clear hold
     rcases i with _ | _ | _ | _ | _ | _ | _ | _ | _ | _ | _ | _ | _ | _ | _ | _ | _ | _ | _ | _ | _ | _ | _ | _ | _ | _ | _ | _ | _ | _ | _ | _ | _ | i
     all_goals simp only [List.getElem?_cons_zero, List.getElem?_cons_succ, List.getElem?_nil, Option.some.injEq, reduceCtorEq] at hi
     all_goals try subst hi
     ·left
      refine ⟨by simp [Region.wanted], ?_⟩
      simp [Oper.wp, go_sem, Act.eval, o7]
      exact ⟨_, rfl, rfl, Kept.refl _ _⟩
     ·obtain ⟨_, s0, rfl⟩ := up.d 0 105 rfl rfl
      left
      refine ⟨by simp [Region.wanted], ?_⟩
      simp [Oper.wp, go_sem, Act.eval, s0, u1]
      exact ⟨_, rfl, rfl, Kept.refl _ _⟩
     ·left
      refine ⟨by simp [Region.wanted], ?_⟩
      simp [Oper.wp, go_sem, Act.eval, o1]
      exact ⟨_, rfl, rfl, Kept.refl _ _⟩
     ·obtain ⟨_, s1, rfl⟩ := up.d 1 106 rfl rfl
      obtain ⟨_, s2, rfl⟩ := up.d 2 107 rfl rfl
      left
      refine ⟨by simp [Region.wanted], ?_⟩
      simp [Oper.wp, go_sem, Act.eval, s1, s2]
      exact ⟨_, rfl, by simp [HE1.out], Kept.refl _ _⟩
     ·obtain ⟨_, s3, rfl⟩ := up.d 3 108 rfl rfl
      left
      refine ⟨by simp [Region.wanted], ?_⟩
      simp [Oper.wp, go_sem, Act.eval, s3]
      exact ⟨_, rfl, rfl, Kept.refl _ _⟩
     ·obtain ⟨_, sg, rfl⟩ := up.d 4 109 rfl rfl
      by_cases he : e1 = false
      ·left
       refine ⟨by simp [Region.wanted, yielded, sg, he], ?_⟩
       simp [Oper.wp, go_sem, Act.eval, o7]
       exact ⟨_, rfl, fun _ => rfl, Kept.refl _ _⟩
      ·right
       have he' : e1 = true := eq_true_of_ne_false he
       exact ⟨by simp [Region.wanted, yielded, sg, he'], fun h => absurd h he⟩
     ·obtain ⟨v5, s5, hv5⟩ := up.d 5 110 rfl rfl
      have hv5 : e1 = false → v5 = _ := hv5
      obtain ⟨_, sg, rfl⟩ := up.d 4 109 rfl rfl
      by_cases he : e1 = false
      ·left
       refine ⟨by simp [Region.wanted, yielded, sg, he], ?_⟩
       have hv5 := hv5 he
       subst hv5
       simp [Oper.wp, go_sem, Act.eval, s5, u2]
       exact ⟨_, rfl, fun _ => rfl, Kept.refl _ _⟩
      ·right
       have he' : e1 = true := eq_true_of_ne_false he
       exact ⟨by simp [Region.wanted, yielded, sg, he'], fun h => absurd h he⟩
     ·obtain ⟨v6, s6, hv6⟩ := up.d 6 111 rfl rfl
      have hv6 : e1 = false → v6 = _ := hv6
      obtain ⟨_, sg, rfl⟩ := up.d 4 109 rfl rfl
      by_cases he : e1 = false
      ·left
       refine ⟨by simp [Region.wanted, yielded, sg, he], ?_⟩
       have hv6 := hv6 he
       subst hv6
       simp [Oper.wp, go_sem, Act.eval, s6]
       exact ⟨_, rfl, fun _ => by simp [HA2.out], Kept.refl _ _⟩
      ·right
       have he' : e1 = true := eq_true_of_ne_false he
       exact ⟨by simp [Region.wanted, yielded, sg, he'], fun h => absurd h he⟩
     ·obtain ⟨_, s4, rfl⟩ := up.d 4 109 rfl rfl
      obtain ⟨v7, s7, hv7⟩ := up.d 7 112 rfl rfl
      have hv7 : e1 = false → v7 = _ := hv7
      left
      refine ⟨by simp [Region.wanted], ?_⟩
      by_cases he : e1 = false
      ·have hv7 := hv7 he
       subst hv7
       simp [Oper.wp, go_sem, Act.eval, s4, s7, he]
       exact ⟨_, rfl, by simp [HE2.out, he], Kept.refl _ _⟩
      ·have he' : e1 = true := eq_true_of_ne_false he
       simp [Oper.wp, go_sem, Act.eval, s4, s7, he']
       exact ⟨_, rfl, by simp [HE2.out, he'], Kept.refl _ _⟩
     ·obtain ⟨_, s8, rfl⟩ := up.d 8 113 rfl rfl
      left
      refine ⟨by simp [Region.wanted], ?_⟩
      simp [Oper.wp, go_sem, Act.eval, s8]
      exact ⟨_, rfl, rfl, Kept.refl _ _⟩
     ·obtain ⟨_, sg, rfl⟩ := up.d 9 114 rfl rfl
      by_cases he : e2 = false
      ·left
       refine ⟨by simp [Region.wanted, yielded, sg, he], ?_⟩
       simp [Oper.wp, go_sem, Act.eval, o7]
       exact ⟨_, rfl, fun _ => rfl, Kept.refl _ _⟩
      ·right
       have he' : e2 = true := eq_true_of_ne_false he
       exact ⟨by simp [Region.wanted, yielded, sg, he'], fun h => absurd h he⟩
     ·obtain ⟨v10, s10, hv10⟩ := up.d 10 115 rfl rfl
      have hv10 : e2 = false → v10 = _ := hv10
      obtain ⟨_, sg, rfl⟩ := up.d 9 114 rfl rfl
      by_cases he : e2 = false
      ·left
       refine ⟨by simp [Region.wanted, yielded, sg, he], ?_⟩
       have hv10 := hv10 he
       subst hv10
       simp [Oper.wp, go_sem, Act.eval, s10, u3]
       exact ⟨_, rfl, fun _ => rfl, Kept.refl _ _⟩
      ·right
       have he' : e2 = true := eq_true_of_ne_false he
       exact ⟨by simp [Region.wanted, yielded, sg, he'], fun h => absurd h he⟩
     ·obtain ⟨v11, s11, hv11⟩ := up.d 11 116 rfl rfl
      have hv11 : e2 = false → v11 = _ := hv11
      obtain ⟨_, sg, rfl⟩ := up.d 9 114 rfl rfl
      by_cases he : e2 = false
      ·left
       refine ⟨by simp [Region.wanted, yielded, sg, he], ?_⟩
       have hv11 := hv11 he
       subst hv11
       simp [Oper.wp, go_sem, Act.eval, s11]
       exact ⟨_, rfl, fun _ => by simp [HA3.out], Kept.refl _ _⟩
      ·right
       have he' : e2 = true := eq_true_of_ne_false he
       exact ⟨by simp [Region.wanted, yielded, sg, he'], fun h => absurd h he⟩
     ·obtain ⟨_, s9, rfl⟩ := up.d 9 114 rfl rfl
      obtain ⟨v12, s12, hv12⟩ := up.d 12 117 rfl rfl
      have hv12 : e2 = false → v12 = _ := hv12
      left
      refine ⟨by simp [Region.wanted], ?_⟩
      by_cases he : e2 = false
      ·have hv12 := hv12 he
       subst hv12
       simp [Oper.wp, go_sem, Act.eval, s9, s12, he]
       exact ⟨_, rfl, by simp [HE3.out, he], Kept.refl _ _⟩
      ·have he' : e2 = true := eq_true_of_ne_false he
       simp [Oper.wp, go_sem, Act.eval, s9, s12, he']
       exact ⟨_, rfl, by simp [HE3.out, he'], Kept.refl _ _⟩
     ·obtain ⟨_, s13, rfl⟩ := up.d 13 118 rfl rfl
      left
      refine ⟨by simp [Region.wanted], ?_⟩
      simp [Oper.wp, go_sem, Act.eval, s13]
      exact ⟨_, rfl, rfl, Kept.refl _ _⟩
     ·obtain ⟨_, sg, rfl⟩ := up.d 14 119 rfl rfl
      by_cases he : e3 = false
      ·left
       refine ⟨by simp [Region.wanted, yielded, sg, he], ?_⟩
       simp [Oper.wp, go_sem, Act.eval, o7]
       exact ⟨_, rfl, fun _ => rfl, Kept.refl _ _⟩
      ·right
       have he' : e3 = true := eq_true_of_ne_false he
       exact ⟨by simp [Region.wanted, yielded, sg, he'], fun h => absurd h he⟩
     ·obtain ⟨v15, s15, hv15⟩ := up.d 15 120 rfl rfl
      have hv15 : e3 = false → v15 = _ := hv15
      obtain ⟨_, sg, rfl⟩ := up.d 14 119 rfl rfl
      by_cases he : e3 = false
      ·left
       refine ⟨by simp [Region.wanted, yielded, sg, he], ?_⟩
       have hv15 := hv15 he
       subst hv15
       simp [Oper.wp, go_sem, Act.eval, s15, u4]
       exact ⟨_, rfl, fun _ => rfl, Kept.refl _ _⟩
      ·right
       have he' : e3 = true := eq_true_of_ne_false he
       exact ⟨by simp [Region.wanted, yielded, sg, he'], fun h => absurd h he⟩
     ·obtain ⟨_, sg, rfl⟩ := up.d 14 119 rfl rfl
      by_cases he : e3 = false
      ·left
       refine ⟨by simp [Region.wanted, yielded, sg, he], ?_⟩
       simp [Oper.wp, go_sem, Act.eval, o7]
       exact ⟨_, rfl, fun _ => rfl, Kept.refl _ _⟩
      ·right
       have he' : e3 = true := eq_true_of_ne_false he
       exact ⟨by simp [Region.wanted, yielded, sg, he'], fun h => absurd h he⟩
     ·obtain ⟨v17, s17, hv17⟩ := up.d 17 122 rfl rfl
      have hv17 : e3 = false → v17 = _ := hv17
      obtain ⟨_, sg, rfl⟩ := up.d 14 119 rfl rfl
      by_cases he : e3 = false
      ·left
       refine ⟨by simp [Region.wanted, yielded, sg, he], ?_⟩
       have hv17 := hv17 he
       subst hv17
       simp [Oper.wp, go_sem, Act.eval, s17, u1]
       exact ⟨_, rfl, fun _ => rfl, Kept.refl _ _⟩
      ·right
       have he' : e3 = true := eq_true_of_ne_false he
       exact ⟨by simp [Region.wanted, yielded, sg, he'], fun h => absurd h he⟩
     ·obtain ⟨v16, s16, hv16⟩ := up.d 16 121 rfl rfl
      have hv16 : e3 = false → v16 = _ := hv16
      obtain ⟨v18, s18, hv18⟩ := up.d 18 123 rfl rfl
      have hv18 : e3 = false → v18 = _ := hv18
      obtain ⟨_, sg, rfl⟩ := up.d 14 119 rfl rfl
      by_cases he : e3 = false
      ·left
       refine ⟨by simp [Region.wanted, yielded, sg, he], ?_⟩
       have hv16 := hv16 he
       subst hv16
       have hv18 := hv18 he
       subst hv18
       have hq := HQ1.out he
       have hqi : (r1 1 : Int) < (N : Int) := by omega
       simp [Oper.wp, go_sem, Act.eval, hq, hqi, s16, s18]
       exact ⟨_, rfl, fun _ => rfl, Kept.refl _ _⟩
      ·right
       have he' : e3 = true := eq_true_of_ne_false he
       exact ⟨by simp [Region.wanted, yielded, sg, he'], fun h => absurd h he⟩
     ·obtain ⟨v19, s19, hv19⟩ := up.d 19 124 rfl rfl
      have hv19 : e3 = false → v19 = _ := hv19
      obtain ⟨_, sg, rfl⟩ := up.d 14 119 rfl rfl
      by_cases he : e3 = false
      ·left
       refine ⟨by simp [Region.wanted, yielded, sg, he], ?_⟩
       have hv19 := hv19 he
       subst hv19
       have yo : wa.cell? ⟨g, r1 1, none⟩ = some (.int .i64 (ro : Nat)) := hkk.cell' ((Lib.cell_of_heap HC.out.1 _).trans (by rw [HRO.out]; exact HC.out.2.1 _ (HQ1.out he))) (fun h => h)
       simp [Oper.wp, go_sem, Act.eval, yo, s19]
       exact ⟨_, rfl, fun _ => rfl, Kept.refl _ _⟩
      ·right
       have he' : e3 = true := eq_true_of_ne_false he
       exact ⟨by simp [Region.wanted, yielded, sg, he'], fun h => absurd h he⟩
     ·obtain ⟨_, sg, rfl⟩ := up.d 14 119 rfl rfl
      by_cases he : e3 = false
      ·left
       refine ⟨by simp [Region.wanted, yielded, sg, he], ?_⟩
       simp [Oper.wp, go_sem, Act.eval, o7]
       exact ⟨_, rfl, fun _ => rfl, Kept.refl _ _⟩
      ·right
       have he' : e3 = true := eq_true_of_ne_false he
       exact ⟨by simp [Region.wanted, yielded, sg, he'], fun h => absurd h he⟩
     ·obtain ⟨v21, s21, hv21⟩ := up.d 21 126 rfl rfl
      have hv21 : e3 = false → v21 = _ := hv21
      obtain ⟨_, sg, rfl⟩ := up.d 14 119 rfl rfl
      by_cases he : e3 = false
      ·left
       refine ⟨by simp [Region.wanted, yielded, sg, he], ?_⟩
       have hv21 := hv21 he
       subst hv21
       simp [Oper.wp, go_sem, Act.eval, s21, u2]
       exact ⟨_, rfl, fun _ => rfl, Kept.refl _ _⟩
      ·right
       have he' : e3 = true := eq_true_of_ne_false he
       exact ⟨by simp [Region.wanted, yielded, sg, he'], fun h => absurd h he⟩
     ·obtain ⟨v22, s22, hv22⟩ := up.d 22 127 rfl rfl
      have hv22 : e3 = false → v22 = _ := hv22
      obtain ⟨_, sg, rfl⟩ := up.d 14 119 rfl rfl
      by_cases he : e3 = false
      ·left
       refine ⟨by simp [Region.wanted, yielded, sg, he], ?_⟩
       have hv22 := hv22 he
       subst hv22
       simp [Oper.wp, go_sem, Act.eval, s22, hwo]
       exact ⟨_, rfl, fun _ => rfl, Kept.refl _ _⟩
      ·right
       have he' : e3 = true := eq_true_of_ne_false he
       exact ⟨by simp [Region.wanted, yielded, sg, he'], fun h => absurd h he⟩
     ·obtain ⟨v20, s20, hv20⟩ := up.d 20 125 rfl rfl
      have hv20 : e3 = false → v20 = _ := hv20
      obtain ⟨v23, s23, hv23⟩ := up.d 23 128 rfl rfl
      have hv23 : e3 = false → v23 = _ := hv23
      obtain ⟨_, sg, rfl⟩ := up.d 14 119 rfl rfl
      by_cases he : e3 = false
      ·left
       refine ⟨by simp [Region.wanted, yielded, sg, he], ?_⟩
       have hv20 := hv20 he
       subst hv20
       have hv23 := hv23 he
       subst hv23
       simp [Oper.wp, go_sem, Act.eval, s20, s23]
       exact ⟨_, rfl, fun _ => by simp [HA4.out], Kept.refl _ _⟩
      ·right
       have he' : e3 = true := eq_true_of_ne_false he
       exact ⟨by simp [Region.wanted, yielded, sg, he'], fun h => absurd h he⟩
     ·obtain ⟨_, s14, rfl⟩ := up.d 14 119 rfl rfl
      obtain ⟨v24, s24, hv24⟩ := up.d 24 129 rfl rfl
      have hv24 : e3 = false → v24 = _ := hv24
      left
      refine ⟨by simp [Region.wanted], ?_⟩
      by_cases he : e3 = false
      ·have hv24 := hv24 he
       subst hv24
       simp [Oper.wp, go_sem, Act.eval, s14, s24, he]
       exact ⟨_, rfl, by simp [HE4.out, he], Kept.refl _ _⟩
      ·have he' : e3 = true := eq_true_of_ne_false he
       simp [Oper.wp, go_sem, Act.eval, s14, s24, he']
       exact ⟨_, rfl, by simp [HE4.out, he'], Kept.refl _ _⟩
     ·obtain ⟨_, s25, rfl⟩ := up.d 25 130 rfl rfl
      left
      refine ⟨by simp [Region.wanted], ?_⟩
      simp [Oper.wp, go_sem, Act.eval, s25]
      exact ⟨_, rfl, rfl, Kept.refl _ _⟩
     ·obtain ⟨_, sg, rfl⟩ := up.d 26 131 rfl rfl
      by_cases he : e4 = false
      ·left
       refine ⟨by simp [Region.wanted, yielded, sg, he], ?_⟩
       simp [Oper.wp, go_sem, Act.eval, o7]
       exact ⟨_, rfl, fun _ => rfl, Kept.refl _ _⟩
      ·right
       have he' : e4 = true := eq_true_of_ne_false he
       exact ⟨by simp [Region.wanted, yielded, sg, he'], fun h => absurd h he⟩
     ·obtain ⟨v27, s27, hv27⟩ := up.d 27 132 rfl rfl
      have hv27 : e4 = false → v27 = _ := hv27
      obtain ⟨_, sg, rfl⟩ := up.d 26 131 rfl rfl
      by_cases he : e4 = false
      ·left
       refine ⟨by simp [Region.wanted, yielded, sg, he], ?_⟩
       have hv27 := hv27 he
       subst hv27
       simp [Oper.wp, go_sem, Act.eval, s27]
       exact ⟨_, rfl, fun _ => rfl, Kept.refl _ _⟩
      ·right
       have he' : e4 = true := eq_true_of_ne_false he
       exact ⟨by simp [Region.wanted, yielded, sg, he'], fun h => absurd h he⟩
     ·obtain ⟨v28, s28, hv28⟩ := up.d 28 133 rfl rfl
      have hv28 : e4 = false → v28 = _ := hv28
      obtain ⟨_, sg, rfl⟩ := up.d 26 131 rfl rfl
      by_cases he : e4 = false
      ·left
       refine ⟨by simp [Region.wanted, yielded, sg, he], ?_⟩
       have hv28 := hv28 he
       subst hv28
       simp [Oper.wp, go_sem, Act.eval, s28, u6]
       exact ⟨_, rfl, fun _ => rfl, Kept.refl _ _⟩
      ·right
       have he' : e4 = true := eq_true_of_ne_false he
       exact ⟨by simp [Region.wanted, yielded, sg, he'], fun h => absurd h he⟩
     ·obtain ⟨_, sg, rfl⟩ := up.d 26 131 rfl rfl
      by_cases he : e4 = false
      ·left
       refine ⟨by simp [Region.wanted, yielded, sg, he], ?_⟩
       simp [Oper.wp, go_sem, Act.eval, o1]
       exact ⟨_, rfl, fun _ => rfl, Kept.refl _ _⟩
      ·right
       have he' : e4 = true := eq_true_of_ne_false he
       exact ⟨by simp [Region.wanted, yielded, sg, he'], fun h => absurd h he⟩
     ·obtain ⟨v29, s29, hv29⟩ := up.d 29 134 rfl rfl
      have hv29 : e4 = false → v29 = _ := hv29
      obtain ⟨v30, s30, hv30⟩ := up.d 30 135 rfl rfl
      have hv30 : e4 = false → v30 = _ := hv30
      obtain ⟨_, sg, rfl⟩ := up.d 26 131 rfl rfl
      by_cases he : e4 = false
      ·left
       refine ⟨by simp [Region.wanted, yielded, sg, he], ?_⟩
       have hv29 := hv29 he
       subst hv29
       have hv30 := hv30 he
       subst hv30
       simp [Oper.wp, go_sem, Act.eval, s29, s30]
       exact ⟨_, rfl, fun _ => by simp [HA5.out], Kept.refl _ _⟩
      ·right
       have he' : e4 = true := eq_true_of_ne_false he
       exact ⟨by simp [Region.wanted, yielded, sg, he'], fun h => absurd h he⟩
     ·obtain ⟨_, s26, rfl⟩ := up.d 26 131 rfl rfl
      obtain ⟨v31, s31, hv31⟩ := up.d 31 136 rfl rfl
      have hv31 : e4 = false → v31 = _ := hv31
      left
      refine ⟨by simp [Region.wanted], ?_⟩
      by_cases he : e4 = false
      ·have hv31 := hv31 he
       subst hv31
       simp [Oper.wp, go_sem, Act.eval, s26, s31, he]
       exact ⟨_, rfl, by simp [HE5.out, he], Kept.refl _ _⟩
      ·have he' : e4 = true := eq_true_of_ne_false he
       simp [Oper.wp, go_sem, Act.eval, s26, s31, he']
       exact ⟨_, rfl, by simp [HE5.out, he'], Kept.refl _ _⟩
    ·intro vals wz hk hvv
     have h32 : vals 32 = _ := hvv 32 (by decide)
     have hk0 : Kept (fun _ => False) w2 wz := ((Kept.refl _ w2).drew).trans' hk
     clear hvv
     simp only [putAll, Act.put, h32]
     simp only [Nat.reduceAdd, Nat.zero_add, List.setIfInBounds_toArray, List.set_cons_succ, List.set_cons_zero]
     go_wp2_with fail
     go_meet
     exact ⟨hk0, rfl⟩
   case rest =>
   obtain ⟨w3, hw3⟩ : ∃ x, x = wc := ⟨_, rfl⟩
   subst hw3
   obtain ⟨K3, rfl⟩ := hcut
   have HR3 : Hid (RdSt w w3 b (rdBox true (r1 1) (rd 2) (rd 6) (.slice (some ⟨g, 0, none⟩) N cp) nc np 0 S)) := HR1.out.quiet K3
   have HC3 : Hid (w3.heap[g]? = some (.cells cur 3 (0, 0)) ∧ (∀ i, i < N → cur[i]? = some (.int .i64 (rd (10 + 4 * i)))) ∧ w.heap.size < g ∧ g ≠ b) := ⟨K3.heap HC.out.1 (fun h => h), HC.out.2⟩
   obtain ⟨x0, x1, x2, x3, x4, x5, x6, x7, x8⟩ := cells9 HR3.out.box
   obtain ⟨y0, y1, y2, y3, y4, y5, y6, y7, y8⟩ := cells9 HR3.out.res
   have zb := lt_of_heap HR3.out.box
   have zr := lt_of_heap HR3.out.res
   have zfr : ∀ j, w3.frozen? ⟨w.heap.size, j, none⟩ = false := Lib.frozen_of_heap HR3.out.res
   clear K3 HR1 HC
   have HQ' : Hid (e5 = false ↔ (r1 1 < N ∧ 1 ≤ rd 2 ∧ 1 ≤ rd 6 ∧ rd (10 + 4 * r1 1) + 1 = rd 2 ∧ np < N)) := HQ
   clear HQ HQ1 HE1 HE2 HE3 HE4 HE5 HA2 HA3 HA4 HA5 HRO hwo
   cases e5 with
   | true =>
    clear x0 x1 x2 x3 x4 x5 x6 x7 x8
    go_wp2_with fail
    exact read_zero HR3.out (fun h => by have h2 := HQ'.out.2 ⟨h.1, h.2.1, h.2.2.1, h.2.2.2.1, by rw [← HNC.out.2]; exact h.2.2.2.2.1⟩; cases h2) rfl rfl rfl
   | false =>
   have HG : Hid (r1 1 < N ∧ 1 ≤ rd 2 ∧ 1 ≤ rd 6 ∧ rd (10 + 4 * r1 1) + 1 = rd 2 ∧ np < N) := HQ'.out.1 rfl
   clear HQ'
   obtain ⟨z5, hz5⟩ : ∃ z : Int, ((nc : Nat) : Int) = z := ⟨_, rfl⟩
   obtain ⟨z6', hz6'⟩ : ∃ z : Int, ((np : Nat) : Int) = z := ⟨_, rfl⟩
   rw [hz5] at x5
   rw [hz6'] at x6
   have HZ2 : Hid (((nc : Nat) : Int) = z5 ∧ ((np : Nat) : Int) = z6') := ⟨hz5, hz6'⟩
   clear hz5 hz6'
   go_upto_region 14 with fail
   go_cut [153] (fun v wd => wd = w3 ∧ ∃ e : Bool, v = .bool e ∧ (e = false ↔ (nc = 0 → true = true ∧ np = 0)))
   case first =>
    by_cases c1 : nc = 0
    ·have c1' : (z5 == 0) = true := by rw [beq_iff_eq]; have := HZ2.out.1; omega
     by_cases c2 : np = 0
     ·have c2' : (z6' != 0) = false := by rw [bne_eq_false_iff_eq]; have := HZ2.out.2; omega
      have HC12 : Hid (nc = 0 ∧ np = 0) := ⟨c1, c2⟩
      clear c1 c2
      go_wp2_with fail
      go_meet
      exact ⟨rfl, _, rfl, by simp [HC12.out.1, HC12.out.2]⟩
     ·have c2' : (z6' != 0) = true := by rw [bne_iff_ne]; have := HZ2.out.2; omega
      have HC12 : Hid (nc = 0 ∧ ¬ np = 0) := ⟨c1, c2⟩
      clear c1 c2
      go_wp2_with fail
      go_meet
      exact ⟨rfl, _, rfl, by simp [HC12.out.1, HC12.out.2]⟩
    ·have c1' : (z5 == 0) = false := by rw [beq_eq_false_iff_ne]; have := HZ2.out.1; omega
     have HC12 : Hid (¬ nc = 0) := c1
     clear c1
     go_wp2_with fail
     go_meet
     exact ⟨rfl, _, rfl, by simp [HC12.out]⟩
   case rest =>
   obtain ⟨hw4, e, rfl, he⟩ := hcut
   subst wc
   have HE : Hid (e = false ↔ (nc = 0 → true = true ∧ np = 0)) := he
   clear he
   cases e with
   | true =>
    go_wp2_with fail
    exact read_zero HR3.out (fun h => by have h2 := HE.out.2 (by have h3 := h.2.2.2.2.2.1; rw [HNC.out.1, HNC.out.2] at h3; simpa using h3); cases h2) rfl rfl rfl
   | false =>
   have HG2 : Hid (nc = 0 → true = true ∧ np = 0) := HE.out.1 rfl
   clear HE HZ2
   obtain ⟨ch, hch⟩ : ∃ ch, rd (15 + 4 * N) = ch := ⟨_, rfl⟩
   have hchb : ch < 4294967296 := by rw [← hch]; exact HRB.out _
   have rdc : ∀ w : World, Calls Tryz.prog 92 #[.string (S.extract (10 + 4 * N + 5) (10 + 4 * N + 9))] w fun e' w' => e' = .returned (.int .i64 (ch : Nat)) ∧ w' = w := fun w => by
    have := HRD.out (15 + 4 * N) (by rw [HNE.out]; omega) w
    rw [hch] at this
    rw [show 10 + 4 * N + 5 = 15 + 4 * N from by omega, show 10 + 4 * N + 9 = 15 + 4 * N + 4 from by omega]
    exact this
   have HCH : Hid (rd (15 + 4 * N) = ch) := hch
   have ht1 : 10 + 4 * (N : Int) + 9 ≤ (n : Int) := by rw [HNE.out]; omega
   have ht2 : (10 + 4 * (N : Int) + 5).toNat = 10 + 4 * N + 5 := by omega
   have ht3 : (10 + 4 * (N : Int) + 9).toNat = 10 + 4 * N + 9 := by omega
   obtain ⟨vb, hvb⟩ : ∃ vb, Lib.validRune (ch : Int) = vb := ⟨_, rfl⟩
   have HVB : Hid (vb = true ↔ okChar ch) := by
    show _ ↔ _
    rw [← hvb]; unfold Lib.validRune okChar; rw [decide_eq_true_eq]; omega
   have hcr := rcharacter_any (ch : Int) (w3.setCell ⟨b, 7, none⟩ (.int .i64 (ch : Nat))) (by omega) (by omega)
   rw [hvb] at hcr
   have zfb : ∀ j, w3.frozen? ⟨b, j, none⟩ = false := Lib.frozen_of_heap HR3.out.box
   clear hch hchb hvb
   go_wp2_with fail
   refine (rdc w3).mono ?_
   rintro e1 w1 ⟨rfl, h1⟩
   subst w1
   clear rdc
   go_wp2_with fail
   refine hcr.mono ?_
   rintro e2 w1 ⟨rfl, h1⟩
   subst w1
   clear hcr
   obtain ⟨w5, hw5⟩ : ∃ x, x = w3.setCell ⟨b, 7, none⟩ (.int .i64 (ch : Nat)) := ⟨_, rfl⟩
   rw [← hw5]
   have HR5 : Hid (RdSt w w5 b (rdBox true (r1 1) (rd 2) (rd 6) (.slice (some ⟨g, 0, none⟩) N cp) nc np ch S)) := by rw [hw5]; exact HR3.out.set (Kept.refl _ _) 7 _
   have HC5 : Hid (w5.heap[g]? = some (.cells cur 3 (0, 0)) ∧ (∀ i, i < N → cur[i]? = some (.int .i64 (rd (10 + 4 * i)))) ∧ w.heap.size < g ∧ g ≠ b) := ⟨by
    rw [hw5]
    exact (Kept.setCell (S := fun x => x = b) (Kept.refl _ w3) (p := ⟨b, 7, none⟩) (fun _ => rfl) _).heap HC3.out.1 (fun e => HC3.out.2.2.2 e), HC3.out.2⟩
   clear hw5 x0 x1 x2 x3 x4 x5 x6 x7 x8 y0 y1 y2 y3 y4 y5 y6 y7 y8 zb zr zfr zfb HR3 HC3 ht1 ht2 ht3
   obtain ⟨x0, x1, x2, x3, x4, x5, x6, x7, x8⟩ := cells9 HR5.out.box
   obtain ⟨y0, y1, y2, y3, y4, y5, y6, y7, y8⟩ := cells9 HR5.out.res
   have zb := lt_of_heap HR5.out.box
   have zr := lt_of_heap HR5.out.res
   have zfr : ∀ j, w5.frozen? ⟨w.heap.size, j, none⟩ = false := Lib.frozen_of_heap HR5.out.res
   cases vb with
   | false =>
    go_wp2_with fail
    exact read_zero HR5.out (fun h => by
     have h3 := h.2.2.2.2.2.2.1 rfl
     rw [HCH.out] at h3
     have h4 := HVB.out.2 h3
     cases h4) rfl rfl rfl
   | true =>
   have HOK : Hid (true = true → okChar (rd (15 + 4 * N))) := fun _ => by rw [HCH.out]; exact HVB.out.1 rfl
   have HCV : Hid (ch = if true then rd (15 + 4 * N) else 0) := HCH.out.symm
   clear HVB
   have hsub : ((n : Int) - 4).toNat = n - 4 := by omega
   have hsb1 : (0 : Int) ≤ (n : Int) - 4 := by omega
   have hi4 : (4 : Int) ≤ (n : Int) := by omega
   have hsb2 : (n : Int) - 4 ≤ (n : Int) := by omega
   have wS : IntKind.i64.wrap ((n : Int) - 4) = (n : Int) - 4 := by rw [IntKind.wrap_i64]; omega
   have hsmc := HSM.out
   have rdl : ∀ w : World, Calls Tryz.prog 92 #[.string (S.extract (n - 4) n)] w fun e' w' => e' = .returned (.int .i64 (rd (n - 4) : Nat)) ∧ w' = w := fun w => by
    have := HRD.out (n - 4) (by omega) w
    rw [show n - 4 + 4 = n from by omega] at this
    exact this
   obtain ⟨rl, HRL⟩ : ∃ r, Hid (r = rd (n - 4)) := ⟨_, rfl⟩
   rw [← HRL.out] at rdl
   obtain ⟨okb, HOB⟩ : ∃ e : Bool, Hid (e = ((sm : Int) == (rl : Int))) := ⟨_, rfl⟩
   have HALL : Hid (okb = true ↔ RdOk N n true rd r1 sm) := by
    show _ ↔ _
    rw [HOB.out, beq_iff_eq, HRL.out]
    constructor
    ·intro h
     have h1 := HG.out
     exact ⟨h1.1, h1.2.1, h1.2.2.1, h1.2.2.2.1, by rw [HNC.out.2]; exact h1.2.2.2.2, by rw [HNC.out.1, HNC.out.2]; have h9 := HG2.out; simpa using h9, HOK.out, by omega⟩
    ·intro h
     have := h.2.2.2.2.2.2.2
     omega
   have HFIN : Hid (∀ (X : World) (a : Act), Kept (fun x => x = w.heap.size) w5 X → X.heap[w.heap.size]? = some (.cells (rdBox true (r1 1) (rd 2) (rd 6) (.slice (some ⟨g, 0, none⟩) N cp) nc np ch S) 119 (0, 0)) → a.tmps[4]? = some (.pointer (some ⟨w.heap.size, 0, none⟩)) → a.tmps[5]? = some (.bool okb) → a.defers = [] → bodyPost Tryz.prog Tryz.f66 (RdPost S N n true rd r1 sm w) .ret a X) := fun X a hk h1 h4 h5 hd => by
    rw [← HNC.out.1, ← HNC.out.2] at h1
    exact read_done h1 (HR5.out.kept.trans hk (fun x hx e => by omega)) (hk.heap HC5.out.1 (fun h => by have := HC5.out.2.2.1; omega)) HC5.out.2.1 HC5.out.2.2.1 HALL.out (fun _ => HCV.out) h4 h5 hd
   clear hn1
   go_wp2_with fail
   refine (hsmc w5).mono ?_
   rintro e1 w1 ⟨rfl, h1⟩
   subst w1
   clear hsmc
   go_upto_region 22 with fail
   refine wp_region_seal (by kernel_rfl) 10 _ rfl (fun x => x = w.heap.size) 9 (by kernel_rfl) (fun iz v wx => match iz with
    | 0 => v = .agg (rdBox true (r1 1) (rd 2) (rd 6) (.slice (some ⟨g, 0, none⟩) N cp) nc np ch S)
    | 1 => v = .int .i64 (sm : Nat)
    | 2 => v = .string S
    | 3 => v = .string S
    | 4 => v = .int .i64 (n : Nat)
    | 5 => v = .int .i64 ((n : Int) - 4)
    | 6 => v = .string (S.extract (n - 4) n)
    | 7 => v = .int .i64 (rl : Nat)
    | 8 => v = .bool okb
    | 9 => BoxAt wx w.heap.size (rdBox true (r1 1) (rd 2) (rd 6) (.slice (some ⟨g, 0, none⟩) N cp) nc np ch S)
    | _ => True) ?_ ?_ (fun _ _ _ h => h) ?_ ?_ ?_
   ·intro i v wa wb hv hk
    split at hv
    case h_10 =>
     exact hk.heap hv (fun h => h)
    all_goals exact hv
   ·intro i v wa wb hi hv hk
    split at hv
    case h_10 =>
     exact absurd rfl hi
    all_goals exact hv
   ·intro i o' hin his hi a' wa hk' up
    have hkk : Kept (fun x => x = w.heap.size) w5 wa := ((Kept.refl _ w5).drew).trans' hk'
    have u0 := hkk.cell' x0 (fun h => Nat.lt_irrefl _ (h ▸ HR5.out.hb))
    have u1 := hkk.cell' x1 (fun h => Nat.lt_irrefl _ (h ▸ HR5.out.hb))
    have u2 := hkk.cell' x2 (fun h => Nat.lt_irrefl _ (h ▸ HR5.out.hb))
    have u3 := hkk.cell' x3 (fun h => Nat.lt_irrefl _ (h ▸ HR5.out.hb))
    have u4 := hkk.cell' x4 (fun h => Nat.lt_irrefl _ (h ▸ HR5.out.hb))
    have u5 := hkk.cell' x5 (fun h => Nat.lt_irrefl _ (h ▸ HR5.out.hb))
    have u6 := hkk.cell' x6 (fun h => Nat.lt_irrefl _ (h ▸ HR5.out.hb))
    have u7 := hkk.cell' x7 (fun h => Nat.lt_irrefl _ (h ▸ HR5.out.hb))
    have u8 := hkk.cell' x8 (fun h => Nat.lt_irrefl _ (h ▸ HR5.out.hb))
    have hold : ∀ d : Nat, (d = 0 ∨ d = 4 ∨ d = 7 ∨ d = 12) → a'.tmps[d]? = _ := fun d hd => up.old d (by
     intro j oj hj hjd
     exfalso
     rcases j with _ | _ | _ | _ | _ | _ | _ | _ | _ | _ | _ | j <;> simp at hj <;> subst hj <;> simp at hjd <;> omega)
    have o0 := hold 0 (by decide)
    have o4 := hold 4 (by decide)
    have o7 := hold 7 (by decide)
    have o12 := hold 12 (by decide)
    simp at o0 o4 o7 o12
    clear hold
    rcases i with _ | _ | _ | _ | _ | _ | _ | _ | _ | _ | i
    all_goals simp only [List.getElem?_cons_zero, List.getElem?_cons_succ, List.getElem?_nil, Option.some.injEq, reduceCtorEq] at hi
    all_goals try subst hi
    ·simp [Oper.wp, go_sem, Act.eval, rdBox, o7, u0, u1, u2, u3, u4, u5, u6, u7, u8]
     exact ⟨_, rfl, rfl, Kept.refl _ _⟩
    ·simp [Oper.wp, go_sem, Act.eval, o12]
     exact ⟨_, rfl, rfl, Kept.refl _ _⟩
    ·simp [Oper.wp, go_sem, Act.eval, o0]
     exact ⟨_, rfl, rfl, Kept.refl _ _⟩
    ·simp [Oper.wp, go_sem, Act.eval, o0]
     exact ⟨_, rfl, rfl, Kept.refl _ _⟩
    ·obtain ⟨_, s3, rfl⟩ := up.d 3 180 rfl rfl
     simp [Oper.wp, go_sem, Act.eval, s3, hn]
     exact ⟨_, rfl, rfl, Kept.refl _ _⟩
    ·obtain ⟨_, s4, rfl⟩ := up.d 4 181 rfl rfl
     simp [Oper.wp, go_sem, Act.eval, s4, wS]
     exact ⟨_, rfl, rfl, Kept.refl _ _⟩
    ·obtain ⟨_, s2, rfl⟩ := up.d 2 179 rfl rfl
     obtain ⟨_, s5, rfl⟩ := up.d 5 182 rfl rfl
     simp [Oper.wp, go_sem, Act.eval, hn, hsub, hsb1, hsb2, hi4, s2, s5]
     exact ⟨_, rfl, rfl, Kept.refl _ _⟩
    ·obtain ⟨_, s6, rfl⟩ := up.d 6 183 rfl rfl
     simp [Oper.wp, go_sem, Act.eval, s6]
     refine (rdl wa).mono ?_
     rintro e' w' ⟨rfl, rfl⟩
     exact ⟨_, rfl, rfl, Kept.refl _ _⟩
    ·obtain ⟨_, s1, rfl⟩ := up.d 1 178 rfl rfl
     obtain ⟨_, s7, rfl⟩ := up.d 7 184 rfl rfl
     simp [Oper.wp, go_sem, Act.eval, s1, s7]
     exact ⟨_, rfl, by simp [HOB.out], Kept.refl _ _⟩
    ·exact absurd rfl his
    ·omega
   ·intro o' _ ho a' wa hk' up
    have hkk : Kept (fun x => x = w.heap.size) w5 wa := ((Kept.refl _ w5).drew).trans' (hk'.mono (fun _ _ h => h.elim))
    have u0 := hkk.cell' x0 (fun h => Nat.lt_irrefl _ (h ▸ HR5.out.hb))
    have u1 := hkk.cell' x1 (fun h => Nat.lt_irrefl _ (h ▸ HR5.out.hb))
    have u2 := hkk.cell' x2 (fun h => Nat.lt_irrefl _ (h ▸ HR5.out.hb))
    have u3 := hkk.cell' x3 (fun h => Nat.lt_irrefl _ (h ▸ HR5.out.hb))
    have u4 := hkk.cell' x4 (fun h => Nat.lt_irrefl _ (h ▸ HR5.out.hb))
    have u5 := hkk.cell' x5 (fun h => Nat.lt_irrefl _ (h ▸ HR5.out.hb))
    have u6 := hkk.cell' x6 (fun h => Nat.lt_irrefl _ (h ▸ HR5.out.hb))
    have u7 := hkk.cell' x7 (fun h => Nat.lt_irrefl _ (h ▸ HR5.out.hb))
    have u8 := hkk.cell' x8 (fun h => Nat.lt_irrefl _ (h ▸ HR5.out.hb))
    simp only [List.getElem?_cons_zero, List.getElem?_cons_succ, List.getElem?_nil, Option.some.injEq, reduceCtorEq] at ho
    subst ho
    obtain ⟨_, s0, rfl⟩ := up.d 0 177 rfl rfl
    have hkq : Kept (fun _ => False) w5 wa := ((Kept.refl _ w5).drew).trans' hk'
    have t0 := hkq.cell' y0 (fun h => h)
    have t1 := hkq.cell' y1 (fun h => h)
    have t2 := hkq.cell' y2 (fun h => h)
    have t3 := hkq.cell' y3 (fun h => h)
    have t4 := hkq.cell' y4 (fun h => h)
    have t5 := hkq.cell' y5 (fun h => h)
    have t6 := hkq.cell' y6 (fun h => h)
    have t7 := hkq.cell' y7 (fun h => h)
    have t8 := hkq.cell' y8 (fun h => h)
    have zr2 : w.heap.size < wa.heap.size := Nat.lt_of_lt_of_le zr hkq.size
    have zf : ∀ j, wa.frozen? ⟨w.heap.size, j, none⟩ = false := Lib.frozen_of_heap (hkq.heap HR5.out.res (fun h => h))
    have hold : a'.tmps[4]? = _ := up.old 4 (by
     intro j oj hj hjd
     exfalso
     rcases j with _ | _ | _ | _ | _ | _ | _ | _ | _ | _ | _ | j <;> simp at hj <;> subst hj <;> simp at hjd <;> omega)
    simp at hold
    obtain ⟨hc1, hc2⟩ := chain9 (s := w.heap.size) (hkq.heap HR5.out.res (fun h => h)) (.bool true) (.int .i64 (r1 1 : Nat)) (.int .i64 (rd 2 : Nat)) (.int .i64 (rd 6 : Nat)) (.slice (some ⟨g, 0, none⟩) N cp) (.int .i64 (nc : Nat)) (.int .i64 (np : Nat)) (.int .i64 (ch : Nat)) (.string S)
    simp [Oper.wp, go_sem, Act.eval, hold, rdBox, s0, zf, zr2, t0, t1, t2, t3, t4, t5, t6, t7, t8]
    exact ⟨hc1, hc2⟩
   ·intro vals wz hk hvv
    have h8 : vals 8 = _ := hvv 8 (by decide)
    have h9 : BoxAt wz w.heap.size _ := hvv 9 (by decide)
    have hkz : Kept (fun x => x = w.heap.size) w5 wz := ((Kept.refl _ w5).drew).trans' hk
    have HK : Hid (Kept (fun x => x = w.heap.size) w5 wz ∧ wz.heap[w.heap.size]? = some (.cells (rdBox true (r1 1) (rd 2) (rd 6) (.slice (some ⟨g, 0, none⟩) N cp) nc np ch S) 119 (0, 0))) := ⟨hkz, h9⟩
    clear hvv hk hkz h9 x0 x1 x2 x3 x4 x5 x6 x7 x8 y0 y1 y2 y3 y4 y5 y6 y7 y8
    simp only [List.take_succ_cons, List.take_zero, List.drop_succ_cons, List.drop_zero, putAll, Act.put, h8]
    simp only [Nat.reduceAdd, Nat.zero_add, List.setIfInBounds_toArray, List.set_cons_succ, List.set_cons_zero]
    go_wp2_with fail
    exact HFIN.out _ _ HK.out.1 HK.out.2 rfl rfl rfl
end Go.Proofs.YtgfafbanahiigaaGreat
