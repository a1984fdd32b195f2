import Derived.Deep.RegionWith
import Derived.Deep.RegionLaw
import Derived.BigRegion
import Derived.Deep.DeepCutAuto
import Derived.Deep.CutBlock
import Derived.Test.YtgfafbanahiigaaGreatR5
import Derived.Test.YtgfafbanahiigaaGreatRK
import Derived.Test.YtgfafbanahiigaaGreatRH
set_option linter.unusedVariables false
set_option linter.unusedSimpArgs false
namespace Go.Proofs.YtgfafbanahiigaaGreat
open Go.RowKit Go.Chorus
theorem conv_in (W : World) (b : Nat) (l : List UInt8) (n c : Nat) (cs : Array Value) (hn : n = l.length) (hcs : cs = (Lib.byteCells l).toArray) (h : W.heap[b]? = some (.cells cs 5 (0, 0))) : (convert 89 9 (.slice (some ⟨b, 0, none⟩) n c)).run Tryz.prog W = .ok (.string ⟨l.toArray⟩) W := by
 subst hn
 exact run_convert_bytes_back _ 89 9 5 ⟨b, 0, none⟩ c l Tryz.underlying89 Tryz.underlying5 Tryz.underlying9 (fun j hj => by
  rw [Addr.add_lit, Nat.zero_add, Lib.cell_of_heap h, hcs]
  simp [Lib.byteCells, List.getElem?_eq_getElem hj])
set_option maxHeartbeats 4000000 in
set_option maxRecDepth 100000 in
theorem rpacket_del (peer num clock nclock npeer char : Nat) (seen : List Nat) (sv : Value) (pk : ByteArray) (w : World) (hsn : IntsAt w sv seen) (hp : peer < 256) (hn : num < 4294967296) (hc : clock < 4294967296) (hnc : nclock < 4294967296) (hnp : npeer < 256) (hch : char < 4294967296) (hsl : seen.length ≤ 8) (hsf : ∀ n ∈ seen, n < 4294967296) :
  Calls Tryz.prog 60 #[.agg #[.bool false, .int .i64 peer, .int .i64 num, .int .i64 clock, sv, .int .i64 nclock, .int .i64 npeer, .int .i64 char, .string pk]] w fun e' w' =>
   e' = .returned (.string ⟨(packetOf 2 peer num clock seen nclock npeer char).toArray⟩) ∧ Kept (fun _ => False) w w' := by
 obtain ⟨sa, sc, hsv, hsc⟩ := hsn.cells
 subst hsv
 obtain ⟨w0, hw0⟩ : ∃ w0, w0 = w.alloc (.cells #[.bool false, .int .i64 peer, .int .i64 num, .int .i64 clock, .slice sa seen.length sc, .int .i64 nclock, .int .i64 npeer, .int .i64 char, .string pk] 119) := ⟨_, rfl⟩
 have hbox : w0.heap[w.heap.size]? = some (.cells #[.bool false, .int .i64 peer, .int .i64 num, .int .i64 clock, .slice sa seen.length sc, .int .i64 nclock, .int .i64 npeer, .int .i64 char, .string pk] 119 (0, 0)) := by rw [hw0]; exact heap_alloc_new w _
 have hkw : Kept (fun _ => False) w w0 := by rw [hw0]; exact (Kept.refl _ w).alloc _
 have x0 : w0.cell? ⟨w.heap.size, 0, none⟩ = some (.bool false) := by rw [Lib.cell_of_heap hbox]; rfl
 have x1 : w0.cell? ⟨w.heap.size, 1, none⟩ = some (.int .i64 peer) := by rw [Lib.cell_of_heap hbox]; rfl
 have x2 : w0.cell? ⟨w.heap.size, 2, none⟩ = some (.int .i64 num) := by rw [Lib.cell_of_heap hbox]; rfl
 have x3 : w0.cell? ⟨w.heap.size, 3, none⟩ = some (.int .i64 clock) := by rw [Lib.cell_of_heap hbox]; rfl
 have x4 : w0.cell? ⟨w.heap.size, 4, none⟩ = some (.slice sa seen.length sc) := by rw [Lib.cell_of_heap hbox]; rfl
 have x5 : w0.cell? ⟨w.heap.size, 5, none⟩ = some (.int .i64 nclock) := by rw [Lib.cell_of_heap hbox]; rfl
 have x6 : w0.cell? ⟨w.heap.size, 6, none⟩ = some (.int .i64 npeer) := by rw [Lib.cell_of_heap hbox]; rfl
 have x7 : w0.cell? ⟨w.heap.size, 7, none⟩ = some (.int .i64 char) := by rw [Lib.cell_of_heap hbox]; rfl
 have hwz : w.heap.size < w0.heap.size := lt_of_heap hbox
 have hsc0 : ∀ (i n : Nat), seen[i]? = some n → ∃ g, sa = some ⟨g, 0, none⟩ ∧ w0.cell? ⟨g, i, none⟩ = some (.int .i64 (n : Int)) := fun i n hi => by
  obtain ⟨g, h1, h2⟩ := hsc i n hi
  exact ⟨g, h1, hkw.cell' h2 (fun h => h)⟩
 have HKW : Hid (Kept (fun _ => False) w w0) := hkw
 clear hsc hkw
 go_enter Tryz.func60, Tryz.ntmps60
 go_wp2_with fail
 rw [← hw0]
 clear hw0 hbox
 go_cut [3] (fun v wc => v = .string ⟨([UInt8.ofNat 2, UInt8.ofNat peer] ++ four num ++ four clock).toArray⟩ ∧ Kept (fun _ => False) w0 wc)
 case first =>
  refine wp_region_byB (by kernel_rfl) _ rfl (by kernel_rfl) (fun i v wx => match i with
   | 0 => v = .pointer (some ⟨w.heap.size, 1, none⟩)
   | 1 => v = .int .i64 peer
   | 2 => v = .int .u8 peer
   | 3 => ∃ b, v = .slice (some ⟨b, 0, none⟩) 2 2 ∧ wx.heap[b]? = some (.cells #[.int .u8 2, .int .u8 (peer : Int)] 5 (0, 0))
   | 4 => v = .string ⟨([UInt8.ofNat 2, UInt8.ofNat peer]).toArray⟩
   | 5 => v = .pointer (some ⟨w.heap.size, 2, none⟩)
   | 6 => v = .int .i64 num
   | 7 => v = .string ⟨(four num).toArray⟩
   | 8 => v = .string ⟨([UInt8.ofNat 2, UInt8.ofNat peer] ++ four num).toArray⟩
   | 9 => v = .pointer (some ⟨w.heap.size, 3, none⟩)
   | 10 => v = .int .i64 clock
   | 11 => v = .string ⟨(four clock).toArray⟩
   | _ => v = .string ⟨([UInt8.ofNat 2, UInt8.ofNat peer] ++ four num ++ four clock).toArray⟩) ?_ ?_ ?_
  ·intro i v wa wb hv hk
   split at hv
   case h_4 =>
    obtain ⟨b, h1, h2⟩ := hv
    exact ⟨b, h1, hk.heap h2 (fun h => h)⟩
   all_goals exact hv
  ·intro i o hi a wa up
   have hkx : Kept (fun _ => False) w0 wa := ((Kept.refl _ w0).drew).trans' up.kept
   have y1 := hkx.cell' x1 (fun h => h)
   have y2 := hkx.cell' x2 (fun h => h)
   have y3 := hkx.cell' x3 (fun h => h)
   have o1 := up.old 1 (by intro j oj hj hd; exfalso; rcases j with _ | _ | _ | _ | _ | _ | _ | _ | _ | _ | _ | _ | _ | _ | j <;> simp at hj <;> subst hj <;> simp at hd)
   simp at o1
   rcases i with _ | _ | _ | _ | _ | _ | _ | _ | _ | _ | _ | _ | _ | _ | i
   all_goals simp only [List.getElem?_cons_zero, List.getElem?_cons_succ, List.getElem?_nil, Option.some.injEq, reduceCtorEq] at hi
   all_goals subst hi
   ·simp [Oper.wp, go_sem, Act.eval, o1]
    exact ⟨_, rfl, rfl, Kept.refl _ _⟩
   ·obtain ⟨_, s0, rfl⟩ := up.d 0 5 rfl rfl
    simp [Oper.wp, go_sem, Act.eval, s0, y1]
    exact ⟨_, rfl, rfl, Kept.refl _ _⟩
   ·obtain ⟨_, s1, rfl⟩ := up.d 1 6 rfl rfl
    simp [Oper.wp, go_sem, Act.eval, s1]
    refine ⟨_, rfl, ?_, Kept.refl _ _⟩
    simp [IntKind.wrap, IntKind.bits, IntKind.signed]; omega
   ·obtain ⟨_, s2, rfl⟩ := up.d 2 7 rfl rfl
    simp [Oper.wp, go_sem, Act.eval, s2]
    exact ⟨_, rfl, ⟨_, rfl, heap_alloc_new wa _⟩, (Kept.refl _ _).alloc _⟩
   ·obtain ⟨v3, s3, b, hv3, hb3⟩ := up.dep ⟨3, .data⟩ (by simp) rfl _ 8 rfl rfl
    subst hv3
    have hcs : (#[.int .u8 ((2 : Nat) : Int), .int .u8 (peer : Int)] : Array Value) = (Lib.byteCells [UInt8.ofNat 2, UInt8.ofNat peer]).toArray := by rw [two_cells 2 peer (by decide) hp]
    have c := conv_in wa b [UInt8.ofNat 2, UInt8.ofNat peer] 2 2 _ rfl hcs hb3
    simp [Oper.wp, go_sem, Act.eval, s3, c]
    exact ⟨_, rfl, rfl, Kept.refl _ _⟩
   ·simp [Oper.wp, go_sem, Act.eval, o1]
    exact ⟨_, rfl, rfl, Kept.refl _ _⟩
   ·obtain ⟨_, s5, rfl⟩ := up.d 5 10 rfl rfl
    simp [Oper.wp, go_sem, Act.eval, s5, y2]
    exact ⟨_, rfl, rfl, Kept.refl _ _⟩
   ·obtain ⟨_, s6, rfl⟩ := up.d 6 11 rfl rfl
    simp [Oper.wp, go_sem, Act.eval, s6]
    refine (rfour_any num wa hn).mono ?_
    rintro e w' ⟨rfl, hk'⟩
    exact ⟨_, rfl, rfl, hk'⟩
   ·obtain ⟨_, s4, rfl⟩ := up.d 4 9 rfl rfl
    obtain ⟨_, s7, rfl⟩ := up.d 7 12 rfl rfl
    simp [Oper.wp, go_sem, Act.eval, s4, s7, str_add wa [UInt8.ofNat 2, UInt8.ofNat peer] (four num) _ rfl (by simp [four])]
    exact ⟨_, rfl, rfl, Kept.refl _ _⟩
   ·simp [Oper.wp, go_sem, Act.eval, o1]
    exact ⟨_, rfl, rfl, Kept.refl _ _⟩
   ·obtain ⟨_, s9, rfl⟩ := up.d 9 14 rfl rfl
    simp [Oper.wp, go_sem, Act.eval, s9, y3]
    exact ⟨_, rfl, rfl, Kept.refl _ _⟩
   ·obtain ⟨_, s10, rfl⟩ := up.d 10 15 rfl rfl
    simp [Oper.wp, go_sem, Act.eval, s10]
    refine (rfour_any clock wa hc).mono ?_
    rintro e w' ⟨rfl, hk'⟩
    exact ⟨_, rfl, rfl, hk'⟩
   ·obtain ⟨_, s8, rfl⟩ := up.d 8 13 rfl rfl
    obtain ⟨_, s11, rfl⟩ := up.d 11 16 rfl rfl
    simp [Oper.wp, go_sem, Act.eval, s8, s11, str_add wa ([UInt8.ofNat 2, UInt8.ofNat peer] ++ four num) (four clock) _ rfl (by simp [four])]
    exact ⟨_, rfl, rfl, Kept.refl _ _⟩
   ·obtain ⟨_, s12, rfl⟩ := up.d 12 17 rfl rfl
    simp [Oper.wp, go_sem, Act.eval, s12]
    exact ⟨_, rfl, rfl, Kept.refl _ _⟩
  ·intro vals wz hk hv
   have h13 : vals 13 = _ := hv 13 (by decide)
   have hk0 : Kept (fun _ => False) w0 wz := ((Kept.refl _ w0).drew).trans' hk
   clear hv
   simp only [putAll, Act.put, h13]
   simp only [Nat.reduceAdd, Nat.zero_add, List.setIfInBounds_toArray, List.set_cons_succ, List.set_cons_zero]
   go_wp2_with fail
   go_meet
   exact ⟨rfl, hk0⟩
 case rest =>
  obtain ⟨rfl, hk1⟩ := hcut
  obtain ⟨w1, hw1⟩ : ∃ x, x = wc := ⟨_, rfl⟩
  subst hw1
  have x0 := hk1.cell' x0 (fun h => h)
  have x1 := hk1.cell' x1 (fun h => h)
  have x2 := hk1.cell' x2 (fun h => h)
  have x3 := hk1.cell' x3 (fun h => h)
  have x4 := hk1.cell' x4 (fun h => h)
  have x5 := hk1.cell' x5 (fun h => h)
  have x6 := hk1.cell' x6 (fun h => h)
  have x7 := hk1.cell' x7 (fun h => h)
  have hz1 : w.heap.size < w1.heap.size := Nat.lt_of_lt_of_le hwz hk1.size
  have hsc1 : ∀ (i n : Nat), seen[i]? = some n → ∃ g, sa = some ⟨g, 0, none⟩ ∧ w1.cell? ⟨g, i, none⟩ = some (.int .i64 (n : Int)) := fun i n hi => by
   obtain ⟨g, h1, h2⟩ := hsc0 i n hi
   exact ⟨g, h1, hk1.cell' h2 (fun h => h)⟩
  have HK1 : Hid (Kept (fun _ => False) w w1) := HKW.out.trans' hk1
  clear hsc0 HKW hk1 hwz
  obtain ⟨w2, hw2⟩ : ∃ x, x = w1 := ⟨_, rfl⟩
  subst hw2
  have hz2 := hz1
  have hsc2 := hsc1
  have HK2 := HK1
  clear hz1 hsc1 HK1
  obtain ⟨T1, hT1⟩ : ∃ T1 : List UInt8, [UInt8.ofNat 2, UInt8.ofNat peer] ++ four num ++ four clock = T1 := ⟨_, rfl⟩
  have hT1l : T1.length = 10 := by rw [← hT1]; simp [four]
  rw [hT1]
  go_upto_block 0 with fail
  go_cut [3, 4] (fun v iv wd => v = .string ⟨(T1 ++ fours seen).toArray⟩ ∧ Hid (Kept (fun _ => False) w2 wd))
  case first =>
   go_wp2
   go_loopw [3, 4] (fun v iv wr => ∃ i : Nat, i ≤ seen.length ∧ iv = .int .i64 i ∧ v = .string ⟨(T1 ++ fours (seen.take i)).toArray⟩ ∧ Hid (Kept (fun _ => False) w2 wr)) (fun _ iv _ => seen.length - (intOf iv).toNat)
   case atStart => exact ⟨0, Nat.zero_le _, rfl, by simp [fours], Kept.refl _ _⟩
   case round =>
    obtain ⟨i, hil, rfl, rfl, hK⟩ := hrel
    have y4 := hK.out.cell' x4 (fun h => h)
    have yz : w.heap.size < wr.heap.size := Nat.lt_of_lt_of_le hz2 hK.out.size
    have hfl : (fours (seen.take i)).length ≤ 32 := by rw [fours_length, List.length_take]; omega
    by_cases hlt : i < seen.length
    ·have hlt2 : (i : Int) < (seen.length : Int) := by omega
     obtain ⟨n, hin⟩ : ∃ n, seen[i]? = some n := ⟨_, List.getElem?_eq_getElem hlt⟩
     obtain ⟨g, rfl, hg⟩ := hsc2 i n hin
     have hg2 := hK.out.cell' hg (fun h => h)
     have gz := World.block_lt_of_cell? wr _ hg2
     have hf := rfour_any n wr (hsf n (List.mem_of_getElem? hin))
     have hts := fours_take seen i n hin
     obtain ⟨U, hU⟩ : ∃ U : List UInt8, T1 ++ fours (seen.take i) = U := ⟨_, rfl⟩
     have hUl : U.length ≤ 42 := by rw [← hU, List.length_append]; omega
     have hU2 : T1 ++ fours (seen.take (i + 1)) = U ++ four n := by rw [hts, ← hU, List.append_assoc]
     rw [hU]
     have HU : Hid (T1 ++ fours (seen.take (i + 1)) = U ++ four n) := hU2
     have hadd : ∀ W : World, (Op.stringOp .add ⟨U.toArray⟩ ⟨(four n).toArray⟩).run Tryz.prog W = .ok (.string ⟨(U ++ four n).toArray⟩) W := fun W => str_add W U (four n) _ rfl (by simp [four]; omega)
     clear hts hU hU2 hg hsc2
     go_wp2_with fail
     refine hf.mono ?_
     rintro e3 w3 ⟨rfl, hk3⟩
     have hK3 : Hid (Kept (fun _ => False) w2 w3) := hK.out.trans' hk3
     have ha3 := hadd w3
     clear hf hadd hK hk3
     go_wp2
     go_roundw
     case rel => exact ⟨i + 1, by omega, by go_num, by rw [HU.out], hK3⟩
     case measure => simp [intOf]; omega
    ·have hlt2 : ¬ (i : Int) < (seen.length : Int) := by omega
     have hlt3 : decide ((i : Int) < (seen.length : Int)) = false := by rw [decide_eq_false_iff_not]; exact hlt2
     obtain rfl : i = seen.length := by omega
     rw [List.take_length]
     go_wp2_with fail
     all_goals
      go_meet
      exact ⟨rfl, hK⟩
  case rest =>
   obtain ⟨rfl, hK⟩ := hcut
   obtain ⟨w4, hw4⟩ : ∃ x, x = wc := ⟨_, rfl⟩
   subst hw4
   have x0 := hK.out.cell' x0 (fun h => h)
   have x5 := hK.out.cell' x5 (fun h => h)
   have x6 := hK.out.cell' x6 (fun h => h)
   have x7 := hK.out.cell' x7 (fun h => h)
   have hz4 : w.heap.size < w4.heap.size := Nat.lt_of_lt_of_le hz2 hK.out.size
   have HK4 : Hid (Kept (fun _ => False) w w4) := HK2.out.trans' hK.out
   obtain ⟨T0, hT0⟩ : ∃ T0 : List UInt8, T1 ++ fours seen = T0 := ⟨_, rfl⟩
   have hT0l : T0.length ≤ 42 := by rw [← hT0, List.length_append, fours_length]; omega
   rw [hT0]
   clear hK HK2 hz2 hsc2 x4
   go_wp2_with fail
   go_cut [3] (fun v wc => v = .string ⟨(T0 ++ four nclock ++ [UInt8.ofNat npeer]).toArray⟩ ∧ Kept (fun _ => False) w4 wc)
   case first =>
    refine wp_region_byB (by kernel_rfl) _ rfl (by kernel_rfl) (fun i v wx => match i with
     | 0 => v = .string ⟨T0.toArray⟩
     | 1 => v = .pointer (some ⟨w.heap.size, 5, none⟩)
     | 2 => v = .pointer (some ⟨w.heap.size, 5, none⟩)
     | 3 => v = .int .i64 nclock
     | 4 => v = .string ⟨(four nclock).toArray⟩
     | 5 => v = .string ⟨(T0 ++ four nclock).toArray⟩
     | 6 => v = .pointer (some ⟨w.heap.size, 5, none⟩)
     | 7 => v = .pointer (some ⟨w.heap.size, 6, none⟩)
     | 8 => v = .int .i64 npeer
     | 9 => v = .int .u8 npeer
     | 10 => ∃ b, v = .slice (some ⟨b, 0, none⟩) 1 1 ∧ wx.heap[b]? = some (.cells #[.int .u8 (npeer : Int)] 5 (0, 0))
     | 11 => v = .string ⟨([UInt8.ofNat npeer]).toArray⟩
     | _ => v = .string ⟨(T0 ++ four nclock ++ [UInt8.ofNat npeer]).toArray⟩) ?_ ?_ ?_
    ·intro i v wa wb hv hk
     split at hv
     case h_11 =>
      obtain ⟨b, h1, h2⟩ := hv
      exact ⟨b, h1, hk.heap h2 (fun h => h)⟩
     all_goals exact hv
    ·intro i o hi a wa up
     have hkx : Kept (fun _ => False) w4 wa := ((Kept.refl _ w4).drew).trans' up.kept
     have y5 := hkx.cell' x5 (fun h => h)
     have y6 := hkx.cell' x6 (fun h => h)
     have o1 := up.old 1 (by intro j oj hj hd; exfalso; rcases j with _ | _ | _ | _ | _ | _ | _ | _ | _ | _ | _ | _ | _ | _ | j <;> simp at hj <;> subst hj <;> simp at hd)
     simp at o1
     rcases i with _ | _ | _ | _ | _ | _ | _ | _ | _ | _ | _ | _ | _ | _ | i
     all_goals simp only [List.getElem?_cons_zero, List.getElem?_cons_succ, List.getElem?_nil, Option.some.injEq, reduceCtorEq] at hi
     all_goals subst hi
     ·have h3 := up.old 3 (by
       intro j oj hj hd
       rcases j with _ | _ | _ | _ | _ | _ | _ | _ | _ | _ | _ | _ | _ | _ | j <;> simp at hj <;> subst hj <;> simp at hd
       right
       exact ⟨⟨0, .phase⟩, by simp, rfl, rfl⟩)
      simp at h3
      simp [Oper.wp, go_sem, Act.eval, h3]
      exact ⟨_, rfl, rfl, Kept.refl _ _⟩
     ·simp [Oper.wp, go_sem, Act.eval, o1]
      exact ⟨_, rfl, rfl, Kept.refl _ _⟩
     ·obtain ⟨_, s0, rfl⟩ := up.d 1 49 rfl rfl
      simp [Oper.wp, go_sem, Act.eval, s0]
      exact ⟨_, rfl, rfl, Kept.refl _ _⟩
     ·obtain ⟨_, s0, rfl⟩ := up.d 2 50 rfl rfl
      simp [Oper.wp, go_sem, Act.eval, s0, y5]
      exact ⟨_, rfl, rfl, Kept.refl _ _⟩
     ·obtain ⟨_, s0, rfl⟩ := up.d 3 51 rfl rfl
      simp [Oper.wp, go_sem, Act.eval, s0]
      refine (rfour_any nclock wa hnc).mono ?_
      rintro e w' ⟨rfl, hk'⟩
      exact ⟨_, rfl, rfl, hk'⟩
     ·obtain ⟨_, s0, rfl⟩ := up.d 0 48 rfl rfl
      obtain ⟨_, s1, rfl⟩ := up.d 4 52 rfl rfl
      simp [Oper.wp, go_sem, Act.eval, s0, s1, str_add wa T0 (four nclock) _ rfl (by simp [four]; omega)]
      exact ⟨_, rfl, rfl, Kept.refl _ _⟩
     ·simp [Oper.wp, go_sem, Act.eval, o1]
      exact ⟨_, rfl, rfl, Kept.refl _ _⟩
     ·obtain ⟨_, s0, rfl⟩ := up.d 6 54 rfl rfl
      simp [Oper.wp, go_sem, Act.eval, s0]
      exact ⟨_, rfl, rfl, Kept.refl _ _⟩
     ·obtain ⟨_, s0, rfl⟩ := up.d 7 55 rfl rfl
      simp [Oper.wp, go_sem, Act.eval, s0, y6]
      exact ⟨_, rfl, rfl, Kept.refl _ _⟩
     ·obtain ⟨_, s0, rfl⟩ := up.d 8 56 rfl rfl
      simp [Oper.wp, go_sem, Act.eval, s0]
      refine ⟨_, rfl, ?_, Kept.refl _ _⟩
      simp [IntKind.wrap, IntKind.bits, IntKind.signed]; omega
     ·obtain ⟨_, s0, rfl⟩ := up.d 9 57 rfl rfl
      simp [Oper.wp, go_sem, Act.eval, s0]
      exact ⟨_, rfl, ⟨_, rfl, heap_alloc_new wa _⟩, (Kept.refl _ _).alloc _⟩
     ·obtain ⟨v3, s3, b, hv3, hb3⟩ := up.dep ⟨10, .data⟩ (by simp) rfl _ 58 rfl rfl
      subst hv3
      have hcs : (#[.int .u8 (npeer : Int)] : Array Value) = (Lib.byteCells [UInt8.ofNat npeer]).toArray := by rw [byte_cell npeer hnp]
      have c := conv_in wa b [UInt8.ofNat npeer] 1 1 _ rfl hcs hb3
      simp [Oper.wp, go_sem, Act.eval, s3, c]
      exact ⟨_, rfl, rfl, Kept.refl _ _⟩
     ·obtain ⟨_, s0, rfl⟩ := up.d 5 53 rfl rfl
      obtain ⟨_, s1, rfl⟩ := up.d 11 59 rfl rfl
      simp [Oper.wp, go_sem, Act.eval, s0, s1, str_add wa (T0 ++ four nclock) [UInt8.ofNat npeer] _ rfl (by simp [four]; omega)]
      exact ⟨_, rfl, rfl, Kept.refl _ _⟩
     ·obtain ⟨_, s0, rfl⟩ := up.d 12 60 rfl rfl
      simp [Oper.wp, go_sem, Act.eval, s0]
      exact ⟨_, rfl, rfl, Kept.refl _ _⟩
    ·intro vals wz hk hv
     have h13 : vals 13 = _ := hv 13 (by decide)
     have hk0 : Kept (fun _ => False) w4 wz := ((Kept.refl _ w4).drew).trans' hk
     clear hv
     simp only [putAll, Act.put, h13]
     simp only [Nat.reduceAdd, Nat.zero_add, List.setIfInBounds_toArray, List.set_cons_succ, List.set_cons_zero]
     go_wp2_with fail
     go_meet
     exact ⟨rfl, hk0⟩
   case rest =>
    obtain ⟨rfl, hk5⟩ := hcut
    obtain ⟨w5, hw5⟩ : ∃ x, x = wc := ⟨_, rfl⟩
    subst hw5
    have x0 := hk5.cell' x0 (fun h => h)
    have x7 := hk5.cell' x7 (fun h => h)
    have hz5 : w.heap.size < w5.heap.size := Nat.lt_of_lt_of_le hz4 hk5.size
    have HK5 : Hid (Kept (fun _ => False) w w5) := HK4.out.trans' hk5
    obtain ⟨T2, hT2⟩ : ∃ T2 : List UInt8, T0 ++ four nclock ++ [UInt8.ofNat npeer] = T2 := ⟨_, rfl⟩
    have hT2l : T2.length ≤ 47 := by rw [← hT2]; simp [four]; omega
    rw [hT2]
    clear hk5 HK4 hz4
    have HH : Hid (packetHead 2 peer num clock seen nclock npeer char = T2) := by
     show packetHead _ _ _ _ _ _ _ _ = _
     rw [← hT2, ← hT0, ← hT1]
     simp [packetHead, List.append_assoc]
    obtain ⟨T3, hT3⟩ : ∃ T3 : List UInt8, T2 = T3 := ⟨_, rfl⟩
    subst hT3
    have hT3l : T2.length ≤ 51 := by omega
    have HK6 := HK5
    clear HK5
    have hsm := rsum_any T2 w5 (by omega)
    have hsb : sumFrom T2 0 < 4294967296 := sumFrom_lt T2 0 (by decide)
    have hf2 := rfour_any (sumFrom T2 0) w5 hsb
    have hadd2 : ∀ W : World, (Op.stringOp .add ⟨T2.toArray⟩ ⟨(four (sumFrom T2 0)).toArray⟩).run Tryz.prog W = .ok (.string ⟨(T2 ++ four (sumFrom T2 0)).toArray⟩) W := fun W => str_add W T2 (four (sumFrom T2 0)) _ rfl (by simp [four]; omega)
    go_wp2_with fail
    refine hsm.mono ?_
    rintro e7 w7 ⟨rfl, hw7⟩
    rw [hw7]
    clear hw7 hsm
    go_wp2_with fail
    refine hf2.mono ?_
    rintro e8 w8 ⟨rfl, hk8⟩
    have ha8 := hadd2 w8
    have HK8 : Hid (Kept (fun _ => False) w w8) := HK6.out.trans' hk8
    clear hf2 hadd2 hk8 HK6
    go_wp2
    go_ret
    refine ⟨?_, HK8⟩
    show Ending.returned (.string ⟨(T2 ++ four (sumFrom T2 0)).toArray⟩) = _
    unfold packetOf
    rw [HH.out]
set_option maxHeartbeats 4000000 in
set_option maxRecDepth 100000 in
theorem rpacket_ins (peer num clock nclock npeer char : Nat) (seen : List Nat) (sv : Value) (pk : ByteArray) (w : World) (hsn : IntsAt w sv seen) (hp : peer < 256) (hn : num < 4294967296) (hc : clock < 4294967296) (hnc : nclock < 4294967296) (hnp : npeer < 256) (hch : char < 4294967296) (hsl : seen.length ≤ 8) (hsf : ∀ n ∈ seen, n < 4294967296) :
  Calls Tryz.prog 60 #[.agg #[.bool true, .int .i64 peer, .int .i64 num, .int .i64 clock, sv, .int .i64 nclock, .int .i64 npeer, .int .i64 char, .string pk]] w fun e' w' =>
   e' = .returned (.string ⟨(packetOf 1 peer num clock seen nclock npeer char).toArray⟩) ∧ Kept (fun _ => False) w w' := by
 obtain ⟨sa, sc, hsv, hsc⟩ := hsn.cells
 subst hsv
 obtain ⟨w0, hw0⟩ : ∃ w0, w0 = w.alloc (.cells #[.bool true, .int .i64 peer, .int .i64 num, .int .i64 clock, .slice sa seen.length sc, .int .i64 nclock, .int .i64 npeer, .int .i64 char, .string pk] 119) := ⟨_, rfl⟩
 have hbox : w0.heap[w.heap.size]? = some (.cells #[.bool true, .int .i64 peer, .int .i64 num, .int .i64 clock, .slice sa seen.length sc, .int .i64 nclock, .int .i64 npeer, .int .i64 char, .string pk] 119 (0, 0)) := by rw [hw0]; exact heap_alloc_new w _
 have hkw : Kept (fun _ => False) w w0 := by rw [hw0]; exact (Kept.refl _ w).alloc _
 have x0 : w0.cell? ⟨w.heap.size, 0, none⟩ = some (.bool true) := by rw [Lib.cell_of_heap hbox]; rfl
 have x1 : w0.cell? ⟨w.heap.size, 1, none⟩ = some (.int .i64 peer) := by rw [Lib.cell_of_heap hbox]; rfl
 have x2 : w0.cell? ⟨w.heap.size, 2, none⟩ = some (.int .i64 num) := by rw [Lib.cell_of_heap hbox]; rfl
 have x3 : w0.cell? ⟨w.heap.size, 3, none⟩ = some (.int .i64 clock) := by rw [Lib.cell_of_heap hbox]; rfl
 have x4 : w0.cell? ⟨w.heap.size, 4, none⟩ = some (.slice sa seen.length sc) := by rw [Lib.cell_of_heap hbox]; rfl
 have x5 : w0.cell? ⟨w.heap.size, 5, none⟩ = some (.int .i64 nclock) := by rw [Lib.cell_of_heap hbox]; rfl
 have x6 : w0.cell? ⟨w.heap.size, 6, none⟩ = some (.int .i64 npeer) := by rw [Lib.cell_of_heap hbox]; rfl
 have x7 : w0.cell? ⟨w.heap.size, 7, none⟩ = some (.int .i64 char) := by rw [Lib.cell_of_heap hbox]; rfl
 have hwz : w.heap.size < w0.heap.size := lt_of_heap hbox
 have hsc0 : ∀ (i n : Nat), seen[i]? = some n → ∃ g, sa = some ⟨g, 0, none⟩ ∧ w0.cell? ⟨g, i, none⟩ = some (.int .i64 (n : Int)) := fun i n hi => by
  obtain ⟨g, h1, h2⟩ := hsc i n hi
  exact ⟨g, h1, hkw.cell' h2 (fun h => h)⟩
 have HKW : Hid (Kept (fun _ => False) w w0) := hkw
 clear hsc hkw
 go_enter Tryz.func60, Tryz.ntmps60
 go_wp2_with fail
 rw [← hw0]
 clear hw0 hbox
 go_cut [3] (fun v wc => v = .string ⟨([UInt8.ofNat 2, UInt8.ofNat peer] ++ four num ++ four clock).toArray⟩ ∧ Kept (fun _ => False) w0 wc)
 case first =>
  refine wp_region_byB (by kernel_rfl) _ rfl (by kernel_rfl) (fun i v wx => match i with
   | 0 => v = .pointer (some ⟨w.heap.size, 1, none⟩)
   | 1 => v = .int .i64 peer
   | 2 => v = .int .u8 peer
   | 3 => ∃ b, v = .slice (some ⟨b, 0, none⟩) 2 2 ∧ wx.heap[b]? = some (.cells #[.int .u8 2, .int .u8 (peer : Int)] 5 (0, 0))
   | 4 => v = .string ⟨([UInt8.ofNat 2, UInt8.ofNat peer]).toArray⟩
   | 5 => v = .pointer (some ⟨w.heap.size, 2, none⟩)
   | 6 => v = .int .i64 num
   | 7 => v = .string ⟨(four num).toArray⟩
   | 8 => v = .string ⟨([UInt8.ofNat 2, UInt8.ofNat peer] ++ four num).toArray⟩
   | 9 => v = .pointer (some ⟨w.heap.size, 3, none⟩)
   | 10 => v = .int .i64 clock
   | 11 => v = .string ⟨(four clock).toArray⟩
   | _ => v = .string ⟨([UInt8.ofNat 2, UInt8.ofNat peer] ++ four num ++ four clock).toArray⟩) ?_ ?_ ?_
  ·intro i v wa wb hv hk
   split at hv
   case h_4 =>
    obtain ⟨b, h1, h2⟩ := hv
    exact ⟨b, h1, hk.heap h2 (fun h => h)⟩
   all_goals exact hv
  ·intro i o hi a wa up
   have hkx : Kept (fun _ => False) w0 wa := ((Kept.refl _ w0).drew).trans' up.kept
   have y1 := hkx.cell' x1 (fun h => h)
   have y2 := hkx.cell' x2 (fun h => h)
   have y3 := hkx.cell' x3 (fun h => h)
   have o1 := up.old 1 (by intro j oj hj hd; exfalso; rcases j with _ | _ | _ | _ | _ | _ | _ | _ | _ | _ | _ | _ | _ | _ | j <;> simp at hj <;> subst hj <;> simp at hd)
   simp at o1
   rcases i with _ | _ | _ | _ | _ | _ | _ | _ | _ | _ | _ | _ | _ | _ | i
   all_goals simp only [List.getElem?_cons_zero, List.getElem?_cons_succ, List.getElem?_nil, Option.some.injEq, reduceCtorEq] at hi
   all_goals subst hi
   ·simp [Oper.wp, go_sem, Act.eval, o1]
    exact ⟨_, rfl, rfl, Kept.refl _ _⟩
   ·obtain ⟨_, s0, rfl⟩ := up.d 0 5 rfl rfl
    simp [Oper.wp, go_sem, Act.eval, s0, y1]
    exact ⟨_, rfl, rfl, Kept.refl _ _⟩
   ·obtain ⟨_, s1, rfl⟩ := up.d 1 6 rfl rfl
    simp [Oper.wp, go_sem, Act.eval, s1]
    refine ⟨_, rfl, ?_, Kept.refl _ _⟩
    simp [IntKind.wrap, IntKind.bits, IntKind.signed]; omega
   ·obtain ⟨_, s2, rfl⟩ := up.d 2 7 rfl rfl
    simp [Oper.wp, go_sem, Act.eval, s2]
    exact ⟨_, rfl, ⟨_, rfl, heap_alloc_new wa _⟩, (Kept.refl _ _).alloc _⟩
   ·obtain ⟨v3, s3, b, hv3, hb3⟩ := up.dep ⟨3, .data⟩ (by simp) rfl _ 8 rfl rfl
    subst hv3
    have hcs : (#[.int .u8 ((2 : Nat) : Int), .int .u8 (peer : Int)] : Array Value) = (Lib.byteCells [UInt8.ofNat 2, UInt8.ofNat peer]).toArray := by rw [two_cells 2 peer (by decide) hp]
    have c := conv_in wa b [UInt8.ofNat 2, UInt8.ofNat peer] 2 2 _ rfl hcs hb3
    simp [Oper.wp, go_sem, Act.eval, s3, c]
    exact ⟨_, rfl, rfl, Kept.refl _ _⟩
   ·simp [Oper.wp, go_sem, Act.eval, o1]
    exact ⟨_, rfl, rfl, Kept.refl _ _⟩
   ·obtain ⟨_, s5, rfl⟩ := up.d 5 10 rfl rfl
    simp [Oper.wp, go_sem, Act.eval, s5, y2]
    exact ⟨_, rfl, rfl, Kept.refl _ _⟩
   ·obtain ⟨_, s6, rfl⟩ := up.d 6 11 rfl rfl
    simp [Oper.wp, go_sem, Act.eval, s6]
    refine (rfour_any num wa hn).mono ?_
    rintro e w' ⟨rfl, hk'⟩
    exact ⟨_, rfl, rfl, hk'⟩
   ·obtain ⟨_, s4, rfl⟩ := up.d 4 9 rfl rfl
    obtain ⟨_, s7, rfl⟩ := up.d 7 12 rfl rfl
    simp [Oper.wp, go_sem, Act.eval, s4, s7, str_add wa [UInt8.ofNat 2, UInt8.ofNat peer] (four num) _ rfl (by simp [four])]
    exact ⟨_, rfl, rfl, Kept.refl _ _⟩
   ·simp [Oper.wp, go_sem, Act.eval, o1]
    exact ⟨_, rfl, rfl, Kept.refl _ _⟩
   ·obtain ⟨_, s9, rfl⟩ := up.d 9 14 rfl rfl
    simp [Oper.wp, go_sem, Act.eval, s9, y3]
    exact ⟨_, rfl, rfl, Kept.refl _ _⟩
   ·obtain ⟨_, s10, rfl⟩ := up.d 10 15 rfl rfl
    simp [Oper.wp, go_sem, Act.eval, s10]
    refine (rfour_any clock wa hc).mono ?_
    rintro e w' ⟨rfl, hk'⟩
    exact ⟨_, rfl, rfl, hk'⟩
   ·obtain ⟨_, s8, rfl⟩ := up.d 8 13 rfl rfl
    obtain ⟨_, s11, rfl⟩ := up.d 11 16 rfl rfl
    simp [Oper.wp, go_sem, Act.eval, s8, s11, str_add wa ([UInt8.ofNat 2, UInt8.ofNat peer] ++ four num) (four clock) _ rfl (by simp [four])]
    exact ⟨_, rfl, rfl, Kept.refl _ _⟩
   ·obtain ⟨_, s12, rfl⟩ := up.d 12 17 rfl rfl
    simp [Oper.wp, go_sem, Act.eval, s12]
    exact ⟨_, rfl, rfl, Kept.refl _ _⟩
  ·intro vals wz hk hv
   have h13 : vals 13 = _ := hv 13 (by decide)
   have hk0 : Kept (fun _ => False) w0 wz := ((Kept.refl _ w0).drew).trans' hk
   clear hv
   simp only [putAll, Act.put, h13]
   simp only [Nat.reduceAdd, Nat.zero_add, List.setIfInBounds_toArray, List.set_cons_succ, List.set_cons_zero]
   go_wp2_with fail
   go_meet
   exact ⟨rfl, hk0⟩
 case rest =>
  obtain ⟨rfl, hk1⟩ := hcut
  obtain ⟨w1, hw1⟩ : ∃ x, x = wc := ⟨_, rfl⟩
  subst hw1
  have x0 := hk1.cell' x0 (fun h => h)
  have x1 := hk1.cell' x1 (fun h => h)
  have x2 := hk1.cell' x2 (fun h => h)
  have x3 := hk1.cell' x3 (fun h => h)
  have x4 := hk1.cell' x4 (fun h => h)
  have x5 := hk1.cell' x5 (fun h => h)
  have x6 := hk1.cell' x6 (fun h => h)
  have x7 := hk1.cell' x7 (fun h => h)
  have hz1 : w.heap.size < w1.heap.size := Nat.lt_of_lt_of_le hwz hk1.size
  have hsc1 : ∀ (i n : Nat), seen[i]? = some n → ∃ g, sa = some ⟨g, 0, none⟩ ∧ w1.cell? ⟨g, i, none⟩ = some (.int .i64 (n : Int)) := fun i n hi => by
   obtain ⟨g, h1, h2⟩ := hsc0 i n hi
   exact ⟨g, h1, hk1.cell' h2 (fun h => h)⟩
  have HK1 : Hid (Kept (fun _ => False) w w1) := HKW.out.trans' hk1
  clear hsc0 HKW hk1 hwz
  go_wp2_with fail
  go_cut [3] (fun v wc => v = .string ⟨([UInt8.ofNat 1, UInt8.ofNat peer] ++ four num ++ four clock).toArray⟩ ∧ Kept (fun _ => False) w1 wc)
  case first =>
   refine wp_region_byB (by kernel_rfl) _ rfl (by kernel_rfl) (fun i v wx => match i with
    | 0 => v = .pointer (some ⟨w.heap.size, 1, none⟩)
    | 1 => v = .int .i64 peer
    | 2 => v = .int .u8 peer
    | 3 => ∃ b, v = .slice (some ⟨b, 0, none⟩) 2 2 ∧ wx.heap[b]? = some (.cells #[.int .u8 1, .int .u8 (peer : Int)] 5 (0, 0))
    | 4 => v = .string ⟨([UInt8.ofNat 1, UInt8.ofNat peer]).toArray⟩
    | 5 => v = .pointer (some ⟨w.heap.size, 2, none⟩)
    | 6 => v = .int .i64 num
    | 7 => v = .string ⟨(four num).toArray⟩
    | 8 => v = .string ⟨([UInt8.ofNat 1, UInt8.ofNat peer] ++ four num).toArray⟩
    | 9 => v = .pointer (some ⟨w.heap.size, 3, none⟩)
    | 10 => v = .int .i64 clock
    | 11 => v = .string ⟨(four clock).toArray⟩
    | _ => v = .string ⟨([UInt8.ofNat 1, UInt8.ofNat peer] ++ four num ++ four clock).toArray⟩) ?_ ?_ ?_
   ·intro i v wa wb hv hk
    split at hv
    case h_4 =>
     obtain ⟨b, h1, h2⟩ := hv
     exact ⟨b, h1, hk.heap h2 (fun h => h)⟩
    all_goals exact hv
   ·intro i o hi a wa up
    have hkx : Kept (fun _ => False) w1 wa := ((Kept.refl _ w1).drew).trans' up.kept
    have y1 := hkx.cell' x1 (fun h => h)
    have y2 := hkx.cell' x2 (fun h => h)
    have y3 := hkx.cell' x3 (fun h => h)
    have o1 := up.old 1 (by intro j oj hj hd; exfalso; rcases j with _ | _ | _ | _ | _ | _ | _ | _ | _ | _ | _ | _ | _ | _ | j <;> simp at hj <;> subst hj <;> simp at hd)
    simp at o1
    rcases i with _ | _ | _ | _ | _ | _ | _ | _ | _ | _ | _ | _ | _ | _ | i
    all_goals simp only [List.getElem?_cons_zero, List.getElem?_cons_succ, List.getElem?_nil, Option.some.injEq, reduceCtorEq] at hi
    all_goals subst hi
    ·simp [Oper.wp, go_sem, Act.eval, o1]
     exact ⟨_, rfl, rfl, Kept.refl _ _⟩
    ·obtain ⟨_, s0, rfl⟩ := up.d 0 20 rfl rfl
     simp [Oper.wp, go_sem, Act.eval, s0, y1]
     exact ⟨_, rfl, rfl, Kept.refl _ _⟩
    ·obtain ⟨_, s1, rfl⟩ := up.d 1 21 rfl rfl
     simp [Oper.wp, go_sem, Act.eval, s1]
     refine ⟨_, rfl, ?_, Kept.refl _ _⟩
     simp [IntKind.wrap, IntKind.bits, IntKind.signed]; omega
    ·obtain ⟨_, s2, rfl⟩ := up.d 2 22 rfl rfl
     simp [Oper.wp, go_sem, Act.eval, s2]
     exact ⟨_, rfl, ⟨_, rfl, heap_alloc_new wa _⟩, (Kept.refl _ _).alloc _⟩
    ·obtain ⟨v3, s3, b, hv3, hb3⟩ := up.dep ⟨3, .data⟩ (by simp) rfl _ 23 rfl rfl
     subst hv3
     have hcs : (#[.int .u8 ((1 : Nat) : Int), .int .u8 (peer : Int)] : Array Value) = (Lib.byteCells [UInt8.ofNat 1, UInt8.ofNat peer]).toArray := by rw [two_cells 1 peer (by decide) hp]
     have c := conv_in wa b [UInt8.ofNat 1, UInt8.ofNat peer] 2 2 _ rfl hcs hb3
     simp [Oper.wp, go_sem, Act.eval, s3, c]
     exact ⟨_, rfl, rfl, Kept.refl _ _⟩
    ·simp [Oper.wp, go_sem, Act.eval, o1]
     exact ⟨_, rfl, rfl, Kept.refl _ _⟩
    ·obtain ⟨_, s5, rfl⟩ := up.d 5 25 rfl rfl
     simp [Oper.wp, go_sem, Act.eval, s5, y2]
     exact ⟨_, rfl, rfl, Kept.refl _ _⟩
    ·obtain ⟨_, s6, rfl⟩ := up.d 6 26 rfl rfl
     simp [Oper.wp, go_sem, Act.eval, s6]
     refine (rfour_any num wa hn).mono ?_
     rintro e w' ⟨rfl, hk'⟩
     exact ⟨_, rfl, rfl, hk'⟩
    ·obtain ⟨_, s4, rfl⟩ := up.d 4 24 rfl rfl
     obtain ⟨_, s7, rfl⟩ := up.d 7 27 rfl rfl
     simp [Oper.wp, go_sem, Act.eval, s4, s7, str_add wa [UInt8.ofNat 1, UInt8.ofNat peer] (four num) _ rfl (by simp [four])]
     exact ⟨_, rfl, rfl, Kept.refl _ _⟩
    ·simp [Oper.wp, go_sem, Act.eval, o1]
     exact ⟨_, rfl, rfl, Kept.refl _ _⟩
    ·obtain ⟨_, s9, rfl⟩ := up.d 9 29 rfl rfl
     simp [Oper.wp, go_sem, Act.eval, s9, y3]
     exact ⟨_, rfl, rfl, Kept.refl _ _⟩
    ·obtain ⟨_, s10, rfl⟩ := up.d 10 30 rfl rfl
     simp [Oper.wp, go_sem, Act.eval, s10]
     refine (rfour_any clock wa hc).mono ?_
     rintro e w' ⟨rfl, hk'⟩
     exact ⟨_, rfl, rfl, hk'⟩
    ·obtain ⟨_, s8, rfl⟩ := up.d 8 28 rfl rfl
     obtain ⟨_, s11, rfl⟩ := up.d 11 31 rfl rfl
     simp [Oper.wp, go_sem, Act.eval, s8, s11, str_add wa ([UInt8.ofNat 1, UInt8.ofNat peer] ++ four num) (four clock) _ rfl (by simp [four])]
     exact ⟨_, rfl, rfl, Kept.refl _ _⟩
    ·obtain ⟨_, s12, rfl⟩ := up.d 12 32 rfl rfl
     simp [Oper.wp, go_sem, Act.eval, s12]
     exact ⟨_, rfl, rfl, Kept.refl _ _⟩
   ·intro vals wz hk hv
    have h13 : vals 13 = _ := hv 13 (by decide)
    have hk0 : Kept (fun _ => False) w1 wz := ((Kept.refl _ w1).drew).trans' hk
    clear hv
    simp only [putAll, Act.put, h13]
    simp only [Nat.reduceAdd, Nat.zero_add, List.setIfInBounds_toArray, List.set_cons_succ, List.set_cons_zero]
    go_wp2_with fail
    go_meet
    exact ⟨rfl, hk0⟩
  case rest =>
   obtain ⟨rfl, hk1⟩ := hcut
   obtain ⟨w2, hw2⟩ : ∃ x, x = wc := ⟨_, rfl⟩
   subst hw2
   have x0 := hk1.cell' x0 (fun h => h)
   have x4 := hk1.cell' x4 (fun h => h)
   have x5 := hk1.cell' x5 (fun h => h)
   have x6 := hk1.cell' x6 (fun h => h)
   have x7 := hk1.cell' x7 (fun h => h)
   have hz2 : w.heap.size < w2.heap.size := Nat.lt_of_lt_of_le hz1 hk1.size
   have hsc2 : ∀ (i n : Nat), seen[i]? = some n → ∃ g, sa = some ⟨g, 0, none⟩ ∧ w2.cell? ⟨g, i, none⟩ = some (.int .i64 (n : Int)) := fun i n hi => by
    obtain ⟨g, h1, h2⟩ := hsc1 i n hi
    exact ⟨g, h1, hk1.cell' h2 (fun h => h)⟩
   have HK2 : Hid (Kept (fun _ => False) w w2) := HK1.out.trans' hk1
   clear hsc1 HK1 hk1 hz1
   obtain ⟨T1, hT1⟩ : ∃ T1 : List UInt8, [UInt8.ofNat 1, UInt8.ofNat peer] ++ four num ++ four clock = T1 := ⟨_, rfl⟩
   have hT1l : T1.length = 10 := by rw [← hT1]; simp [four]
   rw [hT1]
   go_upto_block 0 with fail
   go_cut [3, 4] (fun v iv wd => v = .string ⟨(T1 ++ fours seen).toArray⟩ ∧ Hid (Kept (fun _ => False) w2 wd))
   case first =>
    go_wp2
    go_loopw [3, 4] (fun v iv wr => ∃ i : Nat, i ≤ seen.length ∧ iv = .int .i64 i ∧ v = .string ⟨(T1 ++ fours (seen.take i)).toArray⟩ ∧ Hid (Kept (fun _ => False) w2 wr)) (fun _ iv _ => seen.length - (intOf iv).toNat)
    case atStart => exact ⟨0, Nat.zero_le _, rfl, by simp [fours], Kept.refl _ _⟩
    case round =>
     obtain ⟨i, hil, rfl, rfl, hK⟩ := hrel
     have y4 := hK.out.cell' x4 (fun h => h)
     have yz : w.heap.size < wr.heap.size := Nat.lt_of_lt_of_le hz2 hK.out.size
     have hfl : (fours (seen.take i)).length ≤ 32 := by rw [fours_length, List.length_take]; omega
     by_cases hlt : i < seen.length
     ·have hlt2 : (i : Int) < (seen.length : Int) := by omega
      obtain ⟨n, hin⟩ : ∃ n, seen[i]? = some n := ⟨_, List.getElem?_eq_getElem hlt⟩
      obtain ⟨g, rfl, hg⟩ := hsc2 i n hin
      have hg2 := hK.out.cell' hg (fun h => h)
      have gz := World.block_lt_of_cell? wr _ hg2
      have hf := rfour_any n wr (hsf n (List.mem_of_getElem? hin))
      have hts := fours_take seen i n hin
      obtain ⟨U, hU⟩ : ∃ U : List UInt8, T1 ++ fours (seen.take i) = U := ⟨_, rfl⟩
      have hUl : U.length ≤ 42 := by rw [← hU, List.length_append]; omega
      have hU2 : T1 ++ fours (seen.take (i + 1)) = U ++ four n := by rw [hts, ← hU, List.append_assoc]
      rw [hU]
      have HU : Hid (T1 ++ fours (seen.take (i + 1)) = U ++ four n) := hU2
      have hadd : ∀ W : World, (Op.stringOp .add ⟨U.toArray⟩ ⟨(four n).toArray⟩).run Tryz.prog W = .ok (.string ⟨(U ++ four n).toArray⟩) W := fun W => str_add W U (four n) _ rfl (by simp [four]; omega)
      clear hts hU hU2 hg hsc2
      go_wp2_with fail
      refine hf.mono ?_
      rintro e3 w3 ⟨rfl, hk3⟩
      have hK3 : Hid (Kept (fun _ => False) w2 w3) := hK.out.trans' hk3
      have ha3 := hadd w3
      clear hf hadd hK hk3
      go_wp2
      go_roundw
      case rel => exact ⟨i + 1, by omega, by go_num, by rw [HU.out], hK3⟩
      case measure => simp [intOf]; omega
     ·have hlt2 : ¬ (i : Int) < (seen.length : Int) := by omega
      have hlt3 : decide ((i : Int) < (seen.length : Int)) = false := by rw [decide_eq_false_iff_not]; exact hlt2
      obtain rfl : i = seen.length := by omega
      rw [List.take_length]
      go_wp2_with fail
      all_goals
       go_meet
       exact ⟨rfl, hK⟩
   case rest =>
    obtain ⟨rfl, hK⟩ := hcut
    obtain ⟨w4, hw4⟩ : ∃ x, x = wc := ⟨_, rfl⟩
    subst hw4
    have x0 := hK.out.cell' x0 (fun h => h)
    have x5 := hK.out.cell' x5 (fun h => h)
    have x6 := hK.out.cell' x6 (fun h => h)
    have x7 := hK.out.cell' x7 (fun h => h)
    have hz4 : w.heap.size < w4.heap.size := Nat.lt_of_lt_of_le hz2 hK.out.size
    have HK4 : Hid (Kept (fun _ => False) w w4) := HK2.out.trans' hK.out
    obtain ⟨T0, hT0⟩ : ∃ T0 : List UInt8, T1 ++ fours seen = T0 := ⟨_, rfl⟩
    have hT0l : T0.length ≤ 42 := by rw [← hT0, List.length_append, fours_length]; omega
    rw [hT0]
    clear hK HK2 hz2 hsc2 x4
    go_wp2_with fail
    go_cut [3] (fun v wc => v = .string ⟨(T0 ++ four nclock ++ [UInt8.ofNat npeer]).toArray⟩ ∧ Kept (fun _ => False) w4 wc)
    case first =>
     refine wp_region_byB (by kernel_rfl) _ rfl (by kernel_rfl) (fun i v wx => match i with
      | 0 => v = .string ⟨T0.toArray⟩
      | 1 => v = .pointer (some ⟨w.heap.size, 5, none⟩)
      | 2 => v = .pointer (some ⟨w.heap.size, 5, none⟩)
      | 3 => v = .int .i64 nclock
      | 4 => v = .string ⟨(four nclock).toArray⟩
      | 5 => v = .string ⟨(T0 ++ four nclock).toArray⟩
      | 6 => v = .pointer (some ⟨w.heap.size, 5, none⟩)
      | 7 => v = .pointer (some ⟨w.heap.size, 6, none⟩)
      | 8 => v = .int .i64 npeer
      | 9 => v = .int .u8 npeer
      | 10 => ∃ b, v = .slice (some ⟨b, 0, none⟩) 1 1 ∧ wx.heap[b]? = some (.cells #[.int .u8 (npeer : Int)] 5 (0, 0))
      | 11 => v = .string ⟨([UInt8.ofNat npeer]).toArray⟩
      | _ => v = .string ⟨(T0 ++ four nclock ++ [UInt8.ofNat npeer]).toArray⟩) ?_ ?_ ?_
     ·intro i v wa wb hv hk
      split at hv
      case h_11 =>
       obtain ⟨b, h1, h2⟩ := hv
       exact ⟨b, h1, hk.heap h2 (fun h => h)⟩
      all_goals exact hv
     ·intro i o hi a wa up
      have hkx : Kept (fun _ => False) w4 wa := ((Kept.refl _ w4).drew).trans' up.kept
      have y5 := hkx.cell' x5 (fun h => h)
      have y6 := hkx.cell' x6 (fun h => h)
      have o1 := up.old 1 (by intro j oj hj hd; exfalso; rcases j with _ | _ | _ | _ | _ | _ | _ | _ | _ | _ | _ | _ | _ | _ | j <;> simp at hj <;> subst hj <;> simp at hd)
      simp at o1
      rcases i with _ | _ | _ | _ | _ | _ | _ | _ | _ | _ | _ | _ | _ | _ | i
      all_goals simp only [List.getElem?_cons_zero, List.getElem?_cons_succ, List.getElem?_nil, Option.some.injEq, reduceCtorEq] at hi
      all_goals subst hi
      ·have h3 := up.old 3 (by
        intro j oj hj hd
        rcases j with _ | _ | _ | _ | _ | _ | _ | _ | _ | _ | _ | _ | _ | _ | j <;> simp at hj <;> subst hj <;> simp at hd
        right
        exact ⟨⟨0, .phase⟩, by simp, rfl, rfl⟩)
       simp at h3
       simp [Oper.wp, go_sem, Act.eval, h3]
       exact ⟨_, rfl, rfl, Kept.refl _ _⟩
      ·simp [Oper.wp, go_sem, Act.eval, o1]
       exact ⟨_, rfl, rfl, Kept.refl _ _⟩
      ·obtain ⟨_, s0, rfl⟩ := up.d 1 49 rfl rfl
       simp [Oper.wp, go_sem, Act.eval, s0]
       exact ⟨_, rfl, rfl, Kept.refl _ _⟩
      ·obtain ⟨_, s0, rfl⟩ := up.d 2 50 rfl rfl
       simp [Oper.wp, go_sem, Act.eval, s0, y5]
       exact ⟨_, rfl, rfl, Kept.refl _ _⟩
      ·obtain ⟨_, s0, rfl⟩ := up.d 3 51 rfl rfl
       simp [Oper.wp, go_sem, Act.eval, s0]
       refine (rfour_any nclock wa hnc).mono ?_
       rintro e w' ⟨rfl, hk'⟩
       exact ⟨_, rfl, rfl, hk'⟩
      ·obtain ⟨_, s0, rfl⟩ := up.d 0 48 rfl rfl
       obtain ⟨_, s1, rfl⟩ := up.d 4 52 rfl rfl
       simp [Oper.wp, go_sem, Act.eval, s0, s1, str_add wa T0 (four nclock) _ rfl (by simp [four]; omega)]
       exact ⟨_, rfl, rfl, Kept.refl _ _⟩
      ·simp [Oper.wp, go_sem, Act.eval, o1]
       exact ⟨_, rfl, rfl, Kept.refl _ _⟩
      ·obtain ⟨_, s0, rfl⟩ := up.d 6 54 rfl rfl
       simp [Oper.wp, go_sem, Act.eval, s0]
       exact ⟨_, rfl, rfl, Kept.refl _ _⟩
      ·obtain ⟨_, s0, rfl⟩ := up.d 7 55 rfl rfl
       simp [Oper.wp, go_sem, Act.eval, s0, y6]
       exact ⟨_, rfl, rfl, Kept.refl _ _⟩
      ·obtain ⟨_, s0, rfl⟩ := up.d 8 56 rfl rfl
       simp [Oper.wp, go_sem, Act.eval, s0]
       refine ⟨_, rfl, ?_, Kept.refl _ _⟩
       simp [IntKind.wrap, IntKind.bits, IntKind.signed]; omega
      ·obtain ⟨_, s0, rfl⟩ := up.d 9 57 rfl rfl
       simp [Oper.wp, go_sem, Act.eval, s0]
       exact ⟨_, rfl, ⟨_, rfl, heap_alloc_new wa _⟩, (Kept.refl _ _).alloc _⟩
      ·obtain ⟨v3, s3, b, hv3, hb3⟩ := up.dep ⟨10, .data⟩ (by simp) rfl _ 58 rfl rfl
       subst hv3
       have hcs : (#[.int .u8 (npeer : Int)] : Array Value) = (Lib.byteCells [UInt8.ofNat npeer]).toArray := by rw [byte_cell npeer hnp]
       have c := conv_in wa b [UInt8.ofNat npeer] 1 1 _ rfl hcs hb3
       simp [Oper.wp, go_sem, Act.eval, s3, c]
       exact ⟨_, rfl, rfl, Kept.refl _ _⟩
      ·obtain ⟨_, s0, rfl⟩ := up.d 5 53 rfl rfl
       obtain ⟨_, s1, rfl⟩ := up.d 11 59 rfl rfl
       simp [Oper.wp, go_sem, Act.eval, s0, s1, str_add wa (T0 ++ four nclock) [UInt8.ofNat npeer] _ rfl (by simp [four]; omega)]
       exact ⟨_, rfl, rfl, Kept.refl _ _⟩
      ·obtain ⟨_, s0, rfl⟩ := up.d 12 60 rfl rfl
       simp [Oper.wp, go_sem, Act.eval, s0]
       exact ⟨_, rfl, rfl, Kept.refl _ _⟩
     ·intro vals wz hk hv
      have h13 : vals 13 = _ := hv 13 (by decide)
      have hk0 : Kept (fun _ => False) w4 wz := ((Kept.refl _ w4).drew).trans' hk
      clear hv
      simp only [putAll, Act.put, h13]
      simp only [Nat.reduceAdd, Nat.zero_add, List.setIfInBounds_toArray, List.set_cons_succ, List.set_cons_zero]
      go_wp2_with fail
      go_meet
      exact ⟨rfl, hk0⟩
    case rest =>
     obtain ⟨rfl, hk5⟩ := hcut
     obtain ⟨w5, hw5⟩ : ∃ x, x = wc := ⟨_, rfl⟩
     subst hw5
     have x0 := hk5.cell' x0 (fun h => h)
     have x7 := hk5.cell' x7 (fun h => h)
     have hz5 : w.heap.size < w5.heap.size := Nat.lt_of_lt_of_le hz4 hk5.size
     have HK5 : Hid (Kept (fun _ => False) w w5) := HK4.out.trans' hk5
     obtain ⟨T2, hT2⟩ : ∃ T2 : List UInt8, T0 ++ four nclock ++ [UInt8.ofNat npeer] = T2 := ⟨_, rfl⟩
     have hT2l : T2.length ≤ 47 := by rw [← hT2]; simp [four]; omega
     rw [hT2]
     clear hk5 HK4 hz4
     have hf := rfour_any char w5 hch
     have hadd : ∀ W : World, (Op.stringOp .add ⟨T2.toArray⟩ ⟨(four char).toArray⟩).run Tryz.prog W = .ok (.string ⟨(T2 ++ four char).toArray⟩) W := fun W => str_add W T2 (four char) _ rfl (by simp [four]; omega)
     go_wp2_with fail
     refine hf.mono ?_
     rintro e6 w6 ⟨rfl, hk6⟩
     have ha6 := hadd w6
     have HK6 : Hid (Kept (fun _ => False) w w6) := HK5.out.trans' hk6
     obtain ⟨T3, hT3⟩ : ∃ T3 : List UInt8, T2 ++ four char = T3 := ⟨_, rfl⟩
     have hT3l : T3.length ≤ 51 := by rw [← hT3]; simp [four]; omega
     rw [hT3] at ha6
     have HH : Hid (packetHead 1 peer num clock seen nclock npeer char = T3) := by
      show packetHead _ _ _ _ _ _ _ _ = _
      rw [← hT3, ← hT2, ← hT0, ← hT1]
      simp [packetHead, List.append_assoc]
     clear hf hadd hk6 HK5 x0 x7 hz5
     have hsm := rsum_any T3 w6 (by omega)
     have hsb : sumFrom T3 0 < 4294967296 := sumFrom_lt T3 0 (by decide)
     have hf2 := rfour_any (sumFrom T3 0) w6 hsb
     have hadd2 : ∀ W : World, (Op.stringOp .add ⟨T3.toArray⟩ ⟨(four (sumFrom T3 0)).toArray⟩).run Tryz.prog W = .ok (.string ⟨(T3 ++ four (sumFrom T3 0)).toArray⟩) W := fun W => str_add W T3 (four (sumFrom T3 0)) _ rfl (by simp [four]; omega)
     go_wp2_with fail
     refine hsm.mono ?_
     rintro e7 w7 ⟨rfl, hw7⟩
     rw [hw7]
     clear hw7 hsm
     go_wp2_with fail
     refine hf2.mono ?_
     rintro e8 w8 ⟨rfl, hk8⟩
     have ha8 := hadd2 w8
     have HK8 : Hid (Kept (fun _ => False) w w8) := HK6.out.trans' hk8
     clear hf2 hadd2 hk8 HK6
     go_wp2
     go_ret
     refine ⟨?_, HK8⟩
     show Ending.returned (.string ⟨(T3 ++ four (sumFrom T3 0)).toArray⟩) = _
     unfold packetOf
     rw [HH.out]
theorem rpacket_any (ins : Bool) (peer num clock nclock npeer char : Nat) (seen : List Nat) (sv : Value) (pk : ByteArray) (w : World) (hsn : IntsAt w sv seen) (hp : peer < 256) (hn : num < 4294967296) (hc : clock < 4294967296) (hnc : nclock < 4294967296) (hnp : npeer < 256) (hch : char < 4294967296) (hsl : seen.length ≤ 8) (hsf : ∀ n ∈ seen, n < 4294967296) :
  Calls Tryz.prog 60 #[.agg #[.bool ins, .int .i64 peer, .int .i64 num, .int .i64 clock, sv, .int .i64 nclock, .int .i64 npeer, .int .i64 char, .string pk]] w fun e' w' =>
   e' = .returned (.string ⟨(packetOf (if ins then 1 else 2) peer num clock seen nclock npeer char).toArray⟩) ∧ Kept (fun _ => False) w w' := by
 cases ins with
 | true => exact rpacket_ins peer num clock nclock npeer char seen sv pk w hsn hp hn hc hnc hnp hch hsl hsf
 | false => exact rpacket_del peer num clock nclock npeer char seen sv pk w hsn hp hn hc hnc hnp hch hsl hsf
def RSt.apply (s : RSt) (o : OpeV) : RSt :=
 { s with clock := max s.clock o.1.clock, row := if o.1.ins then insertEl s.row o.1.clock o.1.peer o.1.nclock o.1.npeer o.1.char else killEl s.row o.1.nclock o.1.npeer, ops := s.ops.modify o.1.peer (· ++ [o]) }
theorem RefAt.add {w w1 : World} {F : Nat → Prop} {bp : Nat} {s : RSt} {rv : Value} {bo : Nat} {vs : List Value} {hv : Value} (h : RefAt w F bp s rv bo vs hv) {p : Nat} {v v' : Value} {l : List OpeV} (hvp : vs[p]? = some v) (hl : s.ops[p]? = some l) (ov : OpeV)
  (hown : w1.ownsRow 0 119 9 v' (l.length + 1) (ropsCells (l ++ [ov]))) (hk : Kept (fun k => v.ownBlock = some k) w w1) (hN : ∀ k, v'.ownBlock = some k → v.ownBlock = some k ∨ w.heap.size ≤ k) (hFl : ∀ b, F b → b < w.heap.size) :
  RefAt (w1.setCell ⟨bo, p, none⟩ v') (fun b => F b ∨ w.heap.size ≤ b) bp { s with ops := s.ops.modify p (· ++ [ov]) } rv bo (vs.set p v') hv ∧ Kept F w (w1.setCell ⟨bo, p, none⟩ v') := by
 have hvF : ∀ k, v.ownBlock = some k → F k := h.inV p v hvp
 have hrow := h.opsAt p v l hvp hl
 have hbov : v.ownBlock ≠ some bo := own_ne hrow h.opsB (by decide)
 have hbpv : v.ownBlock ≠ some bp := own_ne hrow h.block (by decide)
 have hbr : ∀ b, rv.ownBlock = some b → v.ownBlock ≠ some b := fun b hb e => by
  rcases h.row.2 with ⟨e1, _⟩ | ⟨g, cap, cur, e1, _, hg, _⟩
  ·rw [e1] at hb; simp [Value.ownBlock] at hb
  ·rw [e1] at hb
   simp only [Value.ownBlock, Option.some.injEq] at hb
   subst hb
   exact own_ne hrow hg (by decide) e
 have kS : Kept (fun b => b = bo) w1 (w1.setCell ⟨bo, p, none⟩ v') := Kept.setCell (S := fun b => b = bo) (Kept.refl _ w1) (p := ⟨bo, p, none⟩) (fun _ => rfl) _
 have kA : Kept (fun b => v.ownBlock = some b ∨ b = bo) w (w1.setCell ⟨bo, p, none⟩ v') := (hk.mono (fun _ _ h => Or.inl h)).trans kS (fun _ _ h => Or.inr h)
 have hpl : p < s.ops.length := (List.getElem?_eq_some_iff.1 hl).1
 have hpv : p < vs.length := (List.getElem?_eq_some_iff.1 hvp).1
 have hbop : bo ≠ bp := fun e => by have := h.opsB; rw [e, h.block] at this; simp at this
 have hbor : ∀ b, rv.ownBlock = some b → b ≠ bo := fun b hb e => by subst e; exact own_ne h.row h.opsB (by decide) hb
 have hboh : ∀ b, hv.ownBlock = some b → b ≠ bo := fun b hb e => by subst e; exact own_ne h.heldAt h.opsB (by decide) hb
 have hbov2 : ∀ (i : Nat) (u : Value) (m : List OpeV), vs[i]? = some u → s.ops[i]? = some m → ∀ b, u.ownBlock = some b → b ≠ bo := fun i u m hi hm b hb e => by subst e; exact own_ne (h.opsAt i u m hi hm) h.opsB (by decide) hb
 have hbo1 := hk.heap h.opsB hbov
 have hvnew : ∀ k, v'.ownBlock = some k → k ≠ bo := fun k hk' e => by
  subst e
  exact own_ne hown hbo1 (by decide) hk'
 refine ⟨⟨?_, ?_, ?_, ?_, ?_, ?_, ?_, Or.inl h.inP, Or.inl h.inO, fun k hk' => Or.inl (h.inR k hk'), ?_, fun k hk' => Or.inl (h.inH k hk'), ?_, ?_⟩, ?_⟩
 ·rw [List.length_modify]
  refine kA.heap h.block ?_
  rintro (e | e)
  ·exact hbpv e
  ·exact hbop e.symm
 ·exact ownsRow_kept h.row kA (fun b hb e => by
   rcases e with e | e
   ·exact hbr b hb e
   ·exact hbor b hb e)
 ·rw [heap_set_same hbo1]
  simp
 ·rw [List.length_set, List.length_modify]; exact h.opsN
 ·intro i u m hi hm
  rw [List.getElem?_modify] at hm
  rw [List.getElem?_set] at hi
  by_cases hip : p = i
  ·subst hip
   rw [if_pos rfl, if_pos hpv] at hi
   cases hi
   rw [hl] at hm
   simp at hm
   subst hm
   rw [List.length_append]
   exact ownsRow_kept hown kS (fun b hb e => hvnew b hb e)
  ·rw [if_neg hip] at hi
   have hm2 : s.ops[i]? = some m := by simpa [hip] using hm
   exact ownsRow_kept (h.opsAt i u m hi hm2) kA (fun b hb e => by
    rcases e with e | e
    ·exact h.apart i p u v hi hvp (fun e2 => hip e2.symm) b hb e
    ·exact hbov2 i u m hi hm2 b hb e)
 ·exact ownsRow_kept h.heldAt kA (fun b hb e => by
   rcases e with e | e
   ·exact h.apartH p v hvp b e hb
   ·exact hboh b hb e)
 ·intro o ho
  obtain ⟨g, cp, cur, h1, h2, h3, h4⟩ := h.seenAt o ho
  refine ⟨g, cp, cur, h1, Or.inl h2, kA.heap h3 ?_, h4⟩
  rintro (e | e)
  ·exact own_ne hrow h3 (by decide) e
  ·rw [e, h.opsB] at h3; simp at h3
 ·intro i u hi k hk'
  rw [List.getElem?_set] at hi
  by_cases hip : p = i
  ·subst hip
   rw [if_pos rfl, if_pos hpv] at hi
   cases hi
   rcases hN k hk' with h1 | h1
   ·exact Or.inl (hvF k h1)
   ·exact Or.inr h1
  ·rw [if_neg hip] at hi
   exact Or.inl (h.inV i u hi k hk')
 ·intro i j u x hi hj hij k hu
  have key : ∀ (i : Nat) (u : Value), p ≠ i → vs[i]? = some u → ∀ k, u.ownBlock = some k → v'.ownBlock ≠ some k := fun i u hpi hi k hu e => by
   rcases hN k e with h1 | h1
   ·exact h.apart i p u v hi hvp (fun e2 => hpi e2.symm) k hu h1
   ·have := hFl k (h.inV i u hi k hu)
    omega
  rw [List.getElem?_set] at hi hj
  by_cases hip : p = i
  ·subst hip
   rw [if_pos rfl, if_pos hpv] at hi
   cases hi
   rw [if_neg hij] at hj
   intro e
   exact key j x hij hj k e hu
  ·rw [if_neg hip] at hi
   by_cases hjp : p = j
   ·subst hjp
    rw [if_pos rfl, if_pos hpv] at hj
    cases hj
    exact key i u hip hi k hu
   ·rw [if_neg hjp] at hj
    exact h.apart i j u x hi hj hij k hu
 ·intro i u hi k hu
  rw [List.getElem?_set] at hi
  by_cases hip : p = i
  ·subst hip
   rw [if_pos rfl, if_pos hpv] at hi
   cases hi
   rcases hN k hu with h1 | h1
   ·exact h.apartH p v hvp k h1
   ·intro e
    have := hFl k (h.inH k e)
    omega
  ·rw [if_neg hip] at hi
   exact h.apartH i u hi k hu
 ·refine kA.mono (fun b _ e => ?_)
  rcases e with e | e
  ·exact hvF b e
  ·rw [e]; exact h.inO
theorem RefAt.mono {w : World} {F F' : Nat → Prop} {bp : Nat} {s : RSt} {rv : Value} {bo : Nat} {vs : List Value} {hv : Value} (h : RefAt w F bp s rv bo vs hv) (hF : ∀ b, F b → F' b) : RefAt w F' bp s rv bo vs hv where
 block := h.block
 row := h.row
 opsB := h.opsB
 opsN := h.opsN
 opsAt := h.opsAt
 heldAt := h.heldAt
 seenAt := fun o ho => by
  obtain ⟨g, cp, cur, h1, h2, h3, h4⟩ := h.seenAt o ho
  exact ⟨g, cp, cur, h1, hF _ h2, h3, h4⟩
 inP := hF _ h.inP
 inO := hF _ h.inO
 inR := fun k hk => hF _ (h.inR k hk)
 inV := fun i v hi k hk => hF _ (h.inV i v hi k hk)
 inH := fun k hk => hF _ (h.inH k hk)
 apart := h.apart
 apartH := h.apartH
theorem RefAt.own {w : World} {F : Nat → Prop} {bp : Nat} {s s' : RSt} {rv rv' : Value} {bo : Nat} {vs : List Value} {hv : Value} (h : RefAt w F bp s rv bo vs hv) (w1 : World) (k1 : Kept (fun b => b = bp) w w1) (hb : w1.heap[bp]? = some (.cells #[.int .i64 s'.me, .int .i64 s'.ops.length, .int .i64 s'.clock, rv', .slice (some ⟨bo, 0, none⟩) s'.ops.length s'.ops.length, hv] 74 (0, 0)))
  (hops : s'.ops = s.ops) (hheld : s'.held = s.held) (hrow : w1.ownsRow 0 78 4 rv' s'.row.length (rrow s'.row)) (hR : ∀ k, rv'.ownBlock = some k → F k) : RefAt w1 F bp s' rv' bo vs hv := by
 have hbo : bo ≠ bp := fun e => by have := h.opsB; rw [e, h.block] at this; simp at this
 refine ⟨hb, hrow, k1.heap h.opsB hbo, by rw [hops]; exact h.opsN, fun i v l hi hl => ?_, ?_, ?_, h.inP, h.inO, hR, h.inV, h.inH, h.apart, h.apartH⟩
 ·rw [hops] at hl
  exact ownsRow_kept (h.opsAt i v l hi hl) k1 (fun b hbb e => by subst e; exact own_ne (h.opsAt i v l hi hl) h.block (by decide) hbb)
 ·rw [hheld]
  exact ownsRow_kept h.heldAt k1 (fun b hbb e => by subst e; exact own_ne h.heldAt h.block (by decide) hbb)
 ·intro o ho
  rw [hheld] at ho
  obtain ⟨g, cp, cur, h1, h2, h3, h4⟩ := h.seenAt o ho
  exact ⟨g, cp, cur, h1, h2, k1.heap h3 (fun e => by rw [e, h.block] at h3; simp at h3), h4⟩
theorem RefAt.clocked {w : World} {F : Nat → Prop} {bp : Nat} {s : RSt} {rv : Value} {bo : Nat} {vs : List Value} {hv : Value} (h : RefAt w F bp s rv bo vs hv) (c : Nat) :
  RefAt (w.setCell ⟨bp, 2, none⟩ (.int .i64 c)) F bp { s with clock := c } rv bo vs hv ∧ Kept F w (w.setCell ⟨bp, 2, none⟩ (.int .i64 c)) := by
 have k1 : Kept (fun b => b = bp) w (w.setCell ⟨bp, 2, none⟩ (.int .i64 c)) := Kept.setCell (S := fun b => b = bp) (Kept.refl _ w) (p := ⟨bp, 2, none⟩) (fun _ => rfl) _
 refine ⟨h.own _ k1 (by rw [heap_set_same h.block]; rfl) rfl rfl (ownsRow_kept h.row k1 (fun b hb e => by subst e; exact own_ne h.row h.block (by decide) hb)) h.inR, k1.mono (fun b _ e => by rw [e]; exact h.inP)⟩
theorem RefAt.rowed {w w1 : World} {F : Nat → Prop} {bp : Nat} {s : RSt} {rv rv' : Value} {bo : Nat} {vs : List Value} {hv : Value} (h : RefAt w F bp s rv bo vs hv) (k : Kept (fun _ => False) w w1) (es : List El) (hrow : w1.ownsRow 0 78 4 rv' es.length (rrow es)) (hnew : ∀ b, rv'.ownBlock = some b → w.heap.size ≤ b) :
  RefAt (w1.setCell ⟨bp, 3, none⟩ rv') (fun b => F b ∨ w.heap.size ≤ b) bp { s with row := es } rv' bo vs hv ∧ Kept F w (w1.setCell ⟨bp, 3, none⟩ rv') := by
 have h1 := (h.kept k (fun _ _ h => h)).mono (F' := fun b => F b ∨ w.heap.size ≤ b) (fun b hb => Or.inl hb)
 have k1 : Kept (fun b => b = bp) w1 (w1.setCell ⟨bp, 3, none⟩ rv') := Kept.setCell (S := fun b => b = bp) (Kept.refl _ w1) (p := ⟨bp, 3, none⟩) (fun _ => rfl) _
 refine ⟨h1.own _ k1 (by rw [heap_set_same h1.block]; rfl) rfl rfl (ownsRow_kept hrow k1 (fun b hb e => by subst e; exact own_ne hrow h1.block (by decide) hb)) (fun b hb => Or.inr (hnew b hb)), ?_⟩
 exact (k.mono (fun _ _ h => h.elim)).trans k1 (fun b _ e => by rw [e]; exact h.inP)
theorem rrow_set (es : List El) (i : Nat) (e : El) (h : es[i]? = some e) : (rrow es).set (i * 4 + 3) (.bool true) = rrow (es.modify i fun e => { e with dead := true }) := by
 induction es generalizing i with
 | nil => simp at h
 | cons x r ih =>
  cases i with
  | zero => simp [rrow, rcellsOf]
  | succ i =>
   have := ih i (by simpa using h)
   rw [List.modify_succ_cons]
   simp only [rrow]
   rw [← this, List.set_append_right _ _ (by simp [rcellsOf]; omega)]
   congr 2
   simp [rcellsOf]; omega
theorem RefAt.killed {w : World} {F : Nat → Prop} {bp : Nat} {s : RSt} {g cap : Nat} {bo : Nat} {vs : List Value} {hv : Value} (h : RefAt w F bp s (.slice (some ⟨g, 0, none⟩) s.row.length cap) bo vs hv) (i : Nat) (e : El) (hi : s.row[i]? = some e) :
  RefAt (w.setCell ⟨g, i * 4 + 3, none⟩ (.bool true)) F bp { s with row := s.row.modify i fun e => { e with dead := true } } (.slice (some ⟨g, 0, none⟩) s.row.length cap) bo vs hv ∧ Kept F w (w.setCell ⟨g, i * 4 + 3, none⟩ (.bool true)) := by
 have k1 : Kept (fun b => b = g) w (w.setCell ⟨g, i * 4 + 3, none⟩ (.bool true)) := Kept.setCell (S := fun b => b = g) (Kept.refl _ w) (p := ⟨g, i * 4 + 3, none⟩) (fun _ => rfl) _
 have hgF : F g := h.inR g rfl
 obtain ⟨r1, r2⟩ := h.row
 rcases r2 with ⟨e1, _⟩ | ⟨g', cap', cur, e1, hb, hg, hnc, hm, hsz, htk⟩
 ·cases e1
 ·injection e1 with x1 x2 x3
  injection x1 with x1
  injection x1 with x1
  subst x1
  subst x3
  have hil := (List.getElem?_eq_some_iff.1 hi).1
  have hgp : g ≠ bp := fun e => by rw [e, h.block] at hg; simp at hg
  have hgo : g ≠ bo := fun e => by rw [e, h.opsB] at hg; simp at hg
  refine ⟨⟨k1.heap h.block (fun e => hgp e.symm), ?_, k1.heap h.opsB (fun e => hgo e.symm), h.opsN, fun j u l hj hl => ownsRow_kept (h.opsAt j u l hj hl) k1 (fun b hbb e => by subst e; exact own_ne (h.opsAt j u l hj hl) hg (by decide) hbb), ownsRow_kept h.heldAt k1 (fun b hbb e => by subst e; exact own_ne h.heldAt hg (by decide) hbb), fun o ho => ?_, h.inP, h.inO, h.inR, h.inV, h.inH, h.apart, h.apartH⟩, k1.mono (fun b _ e => by rw [e]; exact hgF)⟩
  ·refine ⟨by rw [rrow_length], Or.inr ⟨g, cap, cur.setIfInBounds (i * 4 + 3) (.bool true), by rw [List.length_modify], hb, heap_set_same hg _ _, by rw [List.length_modify]; exact hnc, hm, by simpa using hsz, ?_⟩⟩
   rw [List.length_modify, Array.toList_setIfInBounds, List.take_set, htk, rrow_set s.row i e hi]
  ·obtain ⟨g2, cp, cur2, h1, h2, h3, h4⟩ := h.seenAt o ho
   exact ⟨g2, cp, cur2, h1, h2, k1.heap h3 (fun e => by rw [e, hg] at h3; simp at h3), h4⟩
end Go.Proofs.YtgfafbanahiigaaGreat
