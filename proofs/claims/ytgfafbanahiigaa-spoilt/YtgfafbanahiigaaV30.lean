import Derived.Test.YtgfafbanahiigaaV19
import Derived.Test.YtgfafbanahiigaaV21
import Derived.Test.YtgfafbanahiigaaRU
import Derived.Deep.CutBlock
import Derived.Lib.QuietBelow
set_option linter.unusedVariables false
set_option linter.unusedSimpArgs false
namespace Go.Proofs.Ytgfafbanahiigaa
open Go.RowKit Go.Chorus Go.Sort

theorem recvF_same {N : Nat} (s : Pr) (l : List UInt8) (h : (recvF N s l).2.2 ≠ 0) : (recvF N s l).1 = s ∧ (recvF N s l).2.1 = 0 := by
  unfold recvF at *
  split
  · rename_i hr
    rw [if_pos hr] at h
    unfold Pr.oneF at *
    split
    · exact ⟨rfl, rfl⟩
    · rename_i h1
      rw [if_neg h1] at h
      split
      · exact ⟨rfl, rfl⟩
      · rename_i h2
        rw [if_neg h2] at h
        split
        · rename_i h3
          rw [if_pos h3] at h
          exact absurd rfl h
        · rename_i h3
          rw [if_neg h3] at h
          split
          · exact ⟨rfl, rfl⟩
          · rename_i h4
            rw [if_neg h4] at h
            exact absurd rfl h
  · exact ⟨rfl, rfl⟩

theorem recvF_bad {N : Nat} (s : Pr) (l : List UInt8) (h : ¬ Right N l) : recvF N s l = (s, 0, 6) := by
  unfold recvF
  rw [if_neg h]

theorem str_add0 (w : World) (a b : List UInt8) (A B C : ByteArray) (hA : (⟨a.toArray⟩ : ByteArray) = A) (hB : B = ⟨b.toArray⟩) (hC : (⟨(a ++ b).toArray⟩ : ByteArray) = C) (h : a.length + b.length ≤ 9223372036854775807) : (Op.stringOp .add A B).run Try.prog w = .ok (.string C) w := by
  subst hA hB hC
  rw [run_string_add_sum]
  · rw [ByteArray.mk_append_mk]
  · exact h

theorem set_parts (l : List UInt8) (i : Nat) (x y : UInt8) (h : l[i]? = some x) : l = l.take i ++ x :: l.drop (i + 1) ∧ l.set i y = l.take i ++ y :: l.drop (i + 1) := by
  obtain ⟨h1, h2⟩ := List.getElem?_eq_some_iff.1 h
  constructor
  · conv => lhs; rw [← List.take_append_drop i l]
    rw [List.drop_eq_getElem_cons h1, h2]
  · rw [List.set_eq_take_append_cons_drop, if_pos h1]

/-- A group whose peers keep their forms, whatever they have received. -/
def Fits3 (t : Nat) (ss : Nat → Pr) : Prop := ∀ q, q < 3 → Fit 3 (ss q) ∧ psize (ss q) ≤ t

set_option maxHeartbeats 4000000 in
set_option maxRecDepth 100000 in
theorem spoilt_any (a : Option Addr) (n cap : Nat) (which at_ by_ : Int) (bs : List UInt8) (w : World) (hwi : i64ok which) (hai : i64ok at_) (hbi : i64ok by_) (hn : n ≤ 9223372036854775807) (hs : StepsAt w a n)
    (hstep : ∀ (B : Nat → Prop) (w : World) (bg bl lc : Nat) (bp : Nat → Nat) (ss : Nat → Pr) (Fs : Nat → Nat → Prop) (pv : Value) (mds : List Mk) (count t : Nat) (H : List Ope) (G : GSt B w bg bl lc bp ss Fs pv mds count) (O : GOk t H ss count) (hH : (mds.map Mk.o).reverse = H) (ht : t ≤ 300) (hB : ∀ b, w.heap.size ≤ b → B b)
      (kind peer at' which' : Int) (hki : i64ok kind) (hpe : i64ok peer) (hat : i64ok at') (hwh : i64ok which'),
      Calls Try.prog 19 #[.pointer (some ⟨bg, 0, none⟩), .agg #[.int .i64 kind, .int .i64 peer, .int .i64 at', .int .i64 which']] w fun e' w' => e' = .returned (.bool true) ∧ Kept B w w' ∧ ∃ (ss' : Nat → Pr) (Fs' : Nat → Nat → Prop) (pv' : Value) (mds' : List Mk) (count' : Nat), GSt B w' bg bl lc bp ss' Fs' pv' mds' count' ∧ GOk (t + 1) ((mds'.map Mk.o).reverse) ss' count') :
    Calls Try.prog 8 #[.slice a n cap, .int .i64 which, .int .i64 at_, .int .i64 by_, .string ⟨bs.toArray⟩] w fun e' w' => e' = .returned (.bool true) ∧ Kept (fun _ => False) w w' := by
  go_enter Try.func8, Try.ntmps8
  go_wp2_with fail
  refine (fresh_any w).mono ?_
  rintro e1 w1 ⟨bg, bl, lc, bp, Fs, rfl, G1, hk1⟩
  go_upto_block 0 with fail
  go_cut [12] (fun iv wd => Hid (∃ (k : Nat) (ss : Nat → Pr) (Fs : Nat → Nat → Prop) (pv : Value) (mds : List Mk) (count : Nat), k ≤ 60 ∧ GSt (fun b => w.heap.size ≤ b) wd bg bl lc bp ss Fs pv mds count ∧ GOk k ((mds.map Mk.o).reverse) ss count ∧ Kept (fun _ => False) w wd))
  case first =>
    go_wp2
    go_loopw [12] (fun i wr => ∃ (k : Nat) (ss : Nat → Pr) (Fs : Nat → Nat → Prop) (pv : Value) (mds : List Mk) (count : Nat), k ≤ n ∧ k ≤ 60 ∧ i = .int .i64 k ∧ GSt (fun b => w.heap.size ≤ b) wr bg bl lc bp ss Fs pv mds count ∧ GOk k ((mds.map Mk.o).reverse) ss count ∧ Kept (fun _ => False) w wr) (fun i _ => 60 - (intOf i).toNat)
    case atStart => exact ⟨0, stNew, Fs, _, [], 0, Nat.zero_le _, Nat.zero_le _, rfl, G1, GOk.start, hk1⟩
    case round =>
      clear G1
      obtain ⟨k, ss, Fs, pv, mds, count, hkn, hk60, rfl, G, O, hK⟩ := hrel
      by_cases hlt : k < n ∧ k < 60
      · obtain ⟨hlt1, hlt2⟩ := hlt
        have hd1 : decide ((k : Int) < (n : Int)) = true := by rw [decide_eq_true_iff]; omega
        have hd2 : decide ((k : Int) < 60) = true := by rw [decide_eq_true_iff]; omega
        have hd3 : (k : Int) < (n : Int) := by omega
        have hd4 : (k : Int) < 60 := by omega
        obtain ⟨b, off, kd, pe, atx, wh, rfl, s0, s1, s2, s3, r0, r1, r2, r3⟩ := (hs.kept hK) k hlt1
        have hst := hstep (fun b => w.heap.size ≤ b) wr bg bl lc bp ss Fs pv mds count k _ G O rfl (by omega) (fun b hb => Nat.le_trans hK.size hb) kd pe atx wh r0 r1 r2 r3
        go_wp2_with fail
        refine hst.mono ?_
        rintro e2 w2 ⟨rfl, hk2, ss2, Fs2, pv2, mds2, count2, G2, O2⟩
        have hK2 : Kept (fun _ => False) w w2 := hK.trans hk2 (fun i hi h => by have h' : w.heap.size ≤ i := h; omega)
        have HG : Hid (GSt (fun b => w.heap.size ≤ b) w2 bg bl lc bp ss2 Fs2 pv2 mds2 count2 ∧ GOk (k + 1) ((mds2.map Mk.o).reverse) ss2 count2 ∧ Kept (fun _ => False) w w2) := ⟨G2, O2, hK2⟩
        clear hst G O G2 O2 hk2 hK2 s0 s1 s2 s3
        go_wp2
        go_roundw
        case rel => exact ⟨k + 1, ss2, Fs2, pv2, mds2, count2, by omega, by omega, by go_num, HG.out.1, HG.out.2.1, HG.out.2.2⟩
        case measure => simp [intOf]; omega
      · have HZ : Hid (∃ (k : Nat) (ss : Nat → Pr) (Fs : Nat → Nat → Prop) (pv : Value) (mds : List Mk) (count : Nat), k ≤ 60 ∧ GSt (fun b => w.heap.size ≤ b) wr bg bl lc bp ss Fs pv mds count ∧ GOk k ((mds.map Mk.o).reverse) ss count ∧ Kept (fun _ => False) w wr) := ⟨k, ss, Fs, pv, mds, count, hk60, G, O, hK⟩
        clear hs hstep G O hK
        by_cases h1 : k < n
        · have h2 : ¬ (k : Int) < 60 := by omega
          have h3 : decide ((k : Int) < 60) = false := by rw [decide_eq_false_iff_not]; exact h2
          have h4 : (k : Int) < (n : Int) := by omega
          have h5 : ¬ k < 60 := by omega
          clear hlt
          go_wp2_with fail
          all_goals
            go_meet
            exact HZ
        · have h2 : ¬ (k : Int) < (n : Int) := by omega
          have h3 : decide ((k : Int) < (n : Int)) = false := by rw [decide_eq_false_iff_not]; exact h2
          clear hlt
          go_wp2_with fail
          all_goals
            go_meet
            exact HZ
  case rest =>
    clear G1 hs hstep hk1
    obtain ⟨k, ss, Fs, pv, mds, count, hk60, G, O, hK⟩ := hcut.out
    have hgw := gwrite_any (fun b => w.heap.size ≤ b) wc bg bl lc bp ss Fs pv mds count k _ G O rfl (by omega) (fun b hb => Nat.le_trans hK.size hb) 0 (by decide) 0 0 0 0 ⟨by decide, by decide⟩ ⟨by decide, by decide⟩
    have HK0 : Hid (Kept (fun _ => False) w wc) := hK
    clear G O hK
    go_wp2_with fail
    refine hgw.mono ?_
    rintro e3 w3 ⟨rfl, hk3, o, Fs3, pv3, kb, kc, count3, ho1, ho2, ho3, G3, O3⟩
    clear hgw
    obtain ⟨md3, hmd3⟩ : ∃ md3, mds ++ [(⟨o, kb, kc⟩ : Mk)] = md3 := ⟨_, rfl⟩
    obtain ⟨ss3, hss3⟩ : ∃ ss3, upd ss 0 ((ss 0).deliverF o).1 = ss3 := ⟨_, rfl⟩
    have hH3 : (md3.map Mk.o).reverse = o :: (mds.map Mk.o).reverse := by rw [← hmd3, List.map_append, List.reverse_append]; rfl
    have hml0 : 0 < md3.length := by rw [← hmd3]; simp
    rw [hmd3, hss3] at G3
    rw [hss3, ← hH3] at O3
    have hml : md3.length ≤ 62 := by
      have := O3.len
      rw [List.length_reverse, List.length_map] at this
      omega
    obtain ⟨apv, cpv, hpv, _, hpvc⟩ := own_slice G3.packets
    subst hpv
    have hK3 : Kept (fun _ => False) w w3 := HK0.out.trans hk3 (fun i hi h => by have h' : w.heap.size ≤ i := h; omega)
    have d1 : w3.cell? ⟨bg, 1, none⟩ = some (.slice apv md3.length cpv) := by rw [Lib.cell_of_heap G3.block]; rfl
    have dz := lt_of_heap G3.block
    have pl := pickN_lo which (md3.length : Int) (by omega)
    have ph := pickN_hi which (md3.length : Int) (by omega)
    obtain ⟨i, hi⟩ : ∃ i : Nat, pickN which (md3.length : Int) = i := ⟨(pickN which (md3.length : Int)).toNat, by omega⟩
    have hil : i < md3.length := by omega
    have hkp : ∀ W' : World, Calls Try.prog 13 #[.int .i64 which, .int .i64 (md3.length : Int)] W' fun e' w' => e' = .returned (.int .i64 (i : Int)) ∧ w' = W' := fun W' => by
      have := kpick_any which (md3.length : Int) W' (by omega) (by omega) hwi.1 hwi.2
      rw [hi] at this; exact this
    clear pl ph hi
    obtain ⟨md, hmd⟩ : ∃ m, md3[i]? = some m := ⟨_, List.getElem?_eq_getElem hil⟩
    obtain ⟨gp, curp, rfl, hgp, htkp⟩ : ∃ gp curp, apv = some ⟨gp, 0, none⟩ ∧ w3.heap[gp]? = some (.cells curp 51 (0, 0)) ∧ curp.toList.take (md3.length * 4) = madesCells md3 := by
      rcases G3.packets.2 with ⟨e, h0⟩ | ⟨g, cap, cur, e, _, hg, _, _, _, htk⟩
      · omega
      · injection e with x1 x2 x3
        exact ⟨g, cur, x1, hg, htk⟩
    have x0 : w3.cell? ⟨gp, i * 4, none⟩ = some (.string ⟨md.o.packet.toArray⟩) := by
      have h1 := madesCells_at md3 i md hmd 0 (by decide)
      have h2 : (curp.toList.take (md3.length * 4))[i * 4]? = some (.string ⟨md.o.packet.toArray⟩) := by rw [htkp]; exact h1
      rw [List.getElem?_take] at h2
      split at h2
      · rw [Lib.cell_of_heap hgp, ← Array.getElem?_toList]; exact h2
      · cases h2
    have xz := lt_of_heap hgp
    have hmH : md.o ∈ (md3.map Mk.o).reverse := by simp; exact ⟨md, List.mem_of_getElem? hmd, rfl⟩
    have hR := O3.right md.o hmH
    have hRR := hR.right
    obtain ⟨l, hl⟩ : ∃ l, md.o.packet = l := ⟨_, rfl⟩
    have hplen : 31 ≤ l.length ∧ l.length ≤ 35 := by rw [← hl, packet_length, hR.seen]; split <;> omega
    rw [hl] at x0 hRR
    have hili : (i : Int) < (md3.length : Int) := by omega
    have H3 : Hid (GSt (fun b => w.heap.size ≤ b) w3 bg bl lc bp ss3 Fs3 (.slice (some ⟨gp, 0, none⟩) md3.length cpv) md3 count3 ∧ GOk (k + 1) ((md3.map Mk.o).reverse) ss3 count3 ∧ Kept (fun _ => False) w w3 ∧ Right 3 l) := ⟨G3, O3, hK3, hRR⟩
    clear G3 O3 hK3 hRR hl hmd hgp htkp hmH hR hss3 hmd3 hH3 hk3 HK0 ho1 ho2 ho3
    obtain ⟨S, hS⟩ : ∃ S : ByteArray, (⟨l.toArray⟩ : ByteArray) = S := ⟨_, rfl⟩
    have hSs : S.size = l.length := by rw [← hS]; rfl
    have hSd : S.data.toList = l := by rw [← hS]
    rw [hS] at x0
    obtain ⟨L, hL⟩ : ∃ L, l.length = L := ⟨_, rfl⟩
    rw [hL] at hSs hplen
    obtain ⟨hL1, hL2⟩ := hplen
    have hcv : ∀ W : World, (convert 9 55 (.string S)).run Try.prog W = .ok (.slice (some ⟨W.heap.size, 0, none⟩) L (grownCap W L 0 5)) (Lib.bytesWorld W 5 S) := fun W => by
      have := Lib.run_convert_string_bytes W 9 55 5 S Try.underlying9 Try.underlying55 Try.underlying5
      rw [hSs] at this; exact this
    have HSL : Hid ((⟨l.toArray⟩ : ByteArray) = S ∧ l.length = L) := ⟨hS, hL⟩
    clear hS hL
    go_wp2_with fail
    go_quiet (refine Calls.quiet_of_same (hkp _))
    clear hkp x0 xz d1 dz
    go_wp2_with fail
    have pl := pickN_lo at_ (L : Int) (by omega)
    have ph := pickN_hi at_ (L : Int) (by omega)
    obtain ⟨ii, hii⟩ : ∃ ii : Nat, pickN at_ (L : Int) = ii := ⟨(pickN at_ (L : Int)).toNat, by omega⟩
    have hiL : ii < L := by omega
    have hka := kpick_any at_ (L : Int) (Lib.bytesWorld (w3.drewN nq) 5 S) (by omega) (by omega) hai.1 hai.2
    rw [hii] at hka
    clear pl ph hii
    refine hka.mono ?_
    rintro e4 w4 ⟨rfl, hw4⟩
    rw [hw4]
    clear hka hw4
    obtain ⟨W4, hW4⟩ : ∃ W4, W4 = Lib.bytesWorld (w3.drewN nq) 5 S := ⟨_, rfl⟩
    have hk4 : Kept (fun _ => False) w3 W4 := by rw [hW4]; exact ((Kept.refl _ w3).drewN nq).trans' (kept_bytesWorld _ _ _)
    have hB4 : W4.heap[w3.heap.size]? = some (.cells (Lib.bytesCells (w3.drewN nq) 5 S) 5 ((Lib.bytesCells (w3.drewN nq) 5 S).size, (Lib.bytesCells (w3.drewN nq) 5 S).size + 1)) := by
      rw [hW4]
      have := Lib.bytesWorld_at_new (w3.drewN nq) 5 S
      simpa using this
    have hc4 : ∀ j, j < L → W4.cell? ⟨w3.heap.size, j, none⟩ = some (.int .u8 (l.getD j 0).toNat) := fun j hj => by
      rw [hW4]
      have := Lib.bytesWorld_cell (w3.drewN nq) 5 S j (by rw [hSs]; exact hj)
      rw [hSd] at this
      simpa using this
    rw [← hW4]
    clear hW4 hcv
    obtain ⟨GC, hGC⟩ : ∃ GC, grownCap (w3.drewN nq) L 0 5 = GC := ⟨_, rfl⟩
    rw [hGC]
    clear hGC
    obtain ⟨x, hx⟩ : ∃ x, l[ii]? = some x := ⟨_, List.getElem?_eq_getElem (by rw [HSL.out.2]; exact hiL)⟩
    have ci : W4.cell? ⟨w3.heap.size, ii, none⟩ = some (.int .u8 (x.toNat : Int)) := by
      rw [hc4 ii hiL, List.getD_eq_getElem?_getD, hx]; rfl
    have cz := lt_of_heap hB4
    have hxb : x.toNat < 256 := x.toNat_lt
    have pl := pickN_lo by_ 255 (by decide)
    have ph := pickN_hi by_ 255 (by decide)
    obtain ⟨bb, hbb⟩ : ∃ bb : Nat, pickN by_ 255 = bb := ⟨(pickN by_ 255).toNat, by omega⟩
    have hb255 : bb < 255 := by omega
    have hkb : ∀ W' : World, Calls Try.prog 13 #[.int .i64 by_, .int .i64 255] W' fun e' w' => e' = .returned (.int .i64 (bb : Int)) ∧ w' = W' := fun W' => by
      have := kpick_any by_ 255 W' (by decide) (by decide) hbi.1 hbi.2
      rw [hbb] at this; exact this
    clear pl ph hbb
    have hiLi : (ii : Int) < (L : Int) := by omega
    have hbsz : (Lib.bytesCells (w3.drewN nq) 5 S).size = grownCap (w3.drewN nq) S.size 0 5 := by
      have h1 := grownCap_ge (w3.drewN nq) S.size 0 5
      simp [Lib.bytesCells]
      omega
    have fz : W4.frozen? ⟨w3.heap.size, ii, none⟩ = false := by
      have h1 := grownCap_ge (w3.drewN nq) S.size 0 5
      simp only [World.frozen?, hB4]
      rw [hbsz]
      simp
      omega
    go_wp2_with fail
    go_cut [77] (fun uv wd => wd = (W4.setCell ⟨w3.heap.size, ii, none⟩ (.int .u8 (((x.toNat : Int) + 1 + (bb : Int)) % 256))).drew)
    case first =>
      refine wp_region_three 12 2 (by kernel_rfl) (by kernel_rfl) ?_
      simp only [List.take_succ_cons, List.take_zero, List.drop_succ_cons, List.drop_zero]
      change wpStill _ _ (World.drew _) _ _ _
      repeat (first | still_step | still_call (hkb _))
      refine wpStill_nil ?_
      go_wp2_with fail
      change wpStill _ _ _ _ _ _
      refine wpStill_nil ?_
      go_wp2_with fail
      go_meet
      rfl
    case rest =>
      rw [hcut]
      clear hcut
      obtain ⟨y, hy1, hy2⟩ : ∃ y : UInt8, ((x.toNat : Int) + 1 + (bb : Int)) % 256 = (y.toNat : Int) ∧ y ≠ x := by
        refine ⟨UInt8.ofNat ((x.toNat + 1 + bb) % 256), ?_, ?_⟩
        · rw [UInt8.toNat_ofNat', Nat.mod_eq_of_lt (by omega : (x.toNat + 1 + bb) % 256 < 2 ^ 8)]
          omega
        · intro e
          have := congrArg UInt8.toNat e
          rw [UInt8.toNat_ofNat', Nat.mod_eq_of_lt (by omega : (x.toNat + 1 + bb) % 256 < 2 ^ 8)] at this
          omega
      rw [hy1]
      obtain ⟨W5, hW5⟩ : ∃ W5, W5 = (W4.setCell ⟨w3.heap.size, ii, none⟩ (.int .u8 (y.toNat : Int))).drew := ⟨_, rfl⟩
      have hk5 : Kept (fun _ => False) w3 W5 := by
        rw [hW5]
        exact (hk4.setCell (p := ⟨w3.heap.size, ii, none⟩) (fun h => absurd h (Nat.lt_irrefl _)) _).drew
      have hc5 : ∀ (j : Nat) (b : UInt8), (l.set ii y)[j]? = some b → W5.cell? ⟨w3.heap.size, j, none⟩ = some (.int .u8 (b.toNat : Int)) := fun j b hj => by
        rw [hW5]
        show (W4.setCell ⟨w3.heap.size, ii, none⟩ _).cell? ⟨w3.heap.size, j, none⟩ = _
        have hB5 := heap_set_same hB4 ii (.int .u8 (y.toNat : Int))
        rw [Lib.cell_of_heap hB5]
        rw [List.getElem?_set] at hj
        have hsz : ii < (Lib.bytesCells (w3.drewN nq) 5 S).size := by
          rw [hbsz]
          have h1 := grownCap_ge (w3.drewN nq) S.size 0 5
          omega
        by_cases hji : ii = j
        · subst hji
          rw [if_pos rfl] at hj
          split at hj
          · cases hj; simp [hsz]
          · cases hj
        · rw [if_neg hji] at hj
          have hjl : j < L := by rw [← HSL.out.2]; exact (List.getElem?_eq_some_iff.1 hj).1
          have h2 := hc4 j hjl
          rw [Lib.cell_of_heap hB4] at h2
          rw [Array.getElem?_setIfInBounds_ne hji, h2, List.getD_eq_getElem?_getD, hj]; rfl
      rw [← hW5]
      have HY : Hid (y ≠ x ∧ l[ii]? = some x) := ⟨hy2, hx⟩
      clear hW5 hB4 hc4 hk4 ci cz fz hbsz hkb hx hy1 hy2 hSd
      have hcv5 : ∀ W : World, (∀ p, W.cell? p = W5.cell? p) → (convert 55 9 (.slice (some ⟨w3.heap.size, 0, none⟩) L GC)).run Try.prog W = .ok (.string ⟨(l.set ii y).toArray⟩) W := fun W hW => by
        have := run_convert_bytes_back W 55 9 5 ⟨w3.heap.size, 0, none⟩ GC (l.set ii y) Try.underlying55 Try.underlying5 Try.underlying9 (fun j hj => by
          rw [Addr.add_lit, Nat.zero_add, hW]
          exact hc5 j _ (List.getElem?_eq_getElem hj))
        rw [List.length_set, HSL.out.2] at this
        exact this
      have hcv6 := hcv5 (W5.drew) (fun _ => rfl)
      obtain ⟨S2, hS2⟩ : ∃ S2 : ByteArray, (⟨(l ++ [0]).toArray⟩ : ByteArray) = S2 := ⟨_, rfl⟩
      have hadd : ∀ W : World, (Op.stringOp .add S ⟨#[0]⟩).run Try.prog W = .ok (.string S2) W := fun W => str_add0 W l [0] S ⟨#[0]⟩ S2 HSL.out.1 rfl hS2 (by rw [HSL.out.2]; simp; omega)
      obtain ⟨S1, hS1⟩ : ∃ S1 : ByteArray, S.extract 0 ii = S1 := ⟨_, rfl⟩
      have hS1l : S1 = ⟨(l.take ii).toArray⟩ := by
        rw [← hS1, ← HSL.out.1]
        apply ByteArray.ext
        rw [ByteArray.data_extract]
        simp
      have hiS : ii ≤ S.size := by omega
      have hiL2 : ii ≤ L := by omega
      have hiL3 : (ii : Int) ≤ (L : Int) := by omega
      go_wp2_with fail
      refine wp_region_three 8 2 (by kernel_rfl) (by kernel_rfl) ?_
      simp only [List.take_succ_cons, List.take_zero, List.drop_succ_cons, List.drop_zero]
      change wpStill _ _ (World.drew _) _ _ _
      repeat still_step
      refine wpStill_nil ?_
      go_wp2_with fail
      change wpStill _ _ _ _ _ _
      refine wpStill_nil ?_
      obtain ⟨W6, hW6⟩ : ∃ W6, W6 = (W5.alloc (.cells #[.string ⟨(l.set ii y).toArray⟩, .string ⟨(l.take ii).toArray⟩, .string S2, .string ⟨#[]⟩, .string ⟨bs.toArray⟩] 9)).drew := ⟨_, rfl⟩
      have hk6 : Kept (fun _ => False) W5 W6 := by rw [hW6]; exact ((Kept.refl _ W5).alloc _).drew
      have hB6 : W6.heap[W5.heap.size]? = some (.cells #[.string ⟨(l.set ii y).toArray⟩, .string ⟨(l.take ii).toArray⟩, .string S2, .string ⟨#[]⟩, .string ⟨bs.toArray⟩] 9 (0, 0)) := by rw [hW6]; exact heap_alloc_new W5 _
      have HW6 : Hid (W6 = (W5.alloc (.cells #[.string ⟨(l.set ii y).toArray⟩, .string ⟨(l.take ii).toArray⟩, .string S2, .string ⟨#[]⟩, .string ⟨bs.toArray⟩] 9)).drew) := hW6
      obtain ⟨G3, O3, hK3, hRR⟩ := H3.out
      have hz6 := lt_of_heap hB6
      have G6 := ((G3.quiet hk5).old W6.heap.size).quiet hk6
      have hK6 : Kept (fun _ => False) w W6 := (hK3.trans' hk5).trans' hk6
      have hF0 : Fits3 62 ss3 := fun q hq => ⟨O3.fit q hq, Nat.le_trans (O3.size q hq) (by omega)⟩
      obtain ⟨strs, hstrs⟩ : ∃ strs : List (List UInt8), strs = [l.set ii y, l.take ii, l ++ [0], [], bs] := ⟨_, rfl⟩
      have hbad : Hid (∀ (j : Nat) (b : List UInt8), j < 4 → strs[j]? = some b → ¬ Right 3 b) := by
        intro j b hj hb
        rw [hstrs] at hb
        obtain ⟨p1, p2⟩ := set_parts l ii x y HY.out.2
        match j, hj with
        | 0, _ =>
          simp at hb
          subst hb
          rw [p2]
          rw [p1] at hRR
          exact spoilt_byte _ _ x y HY.out.1.symm hRR
        | 1, _ =>
          simp at hb
          subst hb
          exact spoilt_cut l ii (by rw [HSL.out.2]; exact hiL) hRR
        | 2, _ =>
          simp at hb
          subst hb
          exact spoilt_more l 0 hRR
        | 3, _ =>
          simp at hb
          subst hb
          exact spoilt_nil
      have hsl : strs.length = 5 := by rw [hstrs]; rfl
      have hcs : ∀ (j : Nat) (b : List UInt8), strs[j]? = some b → W6.cell? ⟨W5.heap.size, j, none⟩ = some (.string ⟨b.toArray⟩) := by
        intro j b hb
        rw [hstrs] at hb
        rw [Lib.cell_of_heap hB6]
        match j with
        | 0 => simp at hb; subst hb; rfl
        | 1 => simp at hb; subst hb; rfl
        | 2 => simp at hb; subst hb; rw [← hS2]; rfl
        | 3 => simp at hb; subst hb; rfl
        | 4 => simp at hb; subst hb; rfl
        | j + 5 => simp at hb
      have H6 : Hid (GSt (fun b => w.heap.size ≤ b ∧ (b < W5.heap.size ∨ W6.heap.size ≤ b)) W6 bg bl lc bp ss3 Fs3 (.slice (some ⟨gp, 0, none⟩) md3.length cpv) md3 count3 ∧ Kept (fun _ => False) w W6 ∧ Fits3 62 ss3) := ⟨G6, hK6, hF0⟩
      clear G3 O3 hK3 hRR G6 hK6 hF0 hstrs H3 HSL HY hadd hcv5 hcv6 hc5 hk5 hS1 hS1l hS2 hW6 hk6 hB6
      go_wp2_with fail
      rw [← HW6.out]
      go_loopw [19] (fun kv wr => ∃ (k' : Nat) (ss : Nat → Pr) (Fs : Nat → Nat → Prop), k' ≤ 3 ∧ kv = .int .i64 k' ∧ GSt (fun b => w.heap.size ≤ b ∧ (b < W5.heap.size ∨ W6.heap.size ≤ b)) wr bg bl lc bp ss Fs (.slice (some ⟨gp, 0, none⟩) md3.length cpv) md3 count3 ∧ Kept (fun _ => False) w wr ∧ W6.heap.size ≤ wr.heap.size ∧ Hid (∀ (j : Nat) (b : List UInt8), strs[j]? = some b → wr.cell? ⟨W5.heap.size, j, none⟩ = some (.string ⟨b.toArray⟩)) ∧ Fits3 (62 + 5 * k') ss) (fun kv _ => 3 - (intOf kv).toNat)
      case atStart => exact ⟨0, ss3, Fs3, by omega, rfl, H6.out.1, H6.out.2.1, Nat.le_refl _, hcs, H6.out.2.2⟩
      case round =>
        clear hcs H6
        obtain ⟨k', ss, Fs, hk3', rfl, G, hK, hsz, hcs, hF⟩ := hrel
        by_cases hkl : k' < 3
        · have hkli : (k' : Int) < 3 := by omega
          have c0 : wr.cell? ⟨bg, 0, none⟩ = some (.slice (some ⟨bl, 0, none⟩) 3 lc) := by rw [Lib.cell_of_heap G.block]; rfl
          have cz := lt_of_heap G.block
          obtain ⟨cur, hl1, hl2⟩ := G.list
          have cl : wr.cell? ⟨bl, k', none⟩ = some (.pointer (some ⟨bp k', 0, none⟩)) := by rw [Lib.cell_of_heap hl1]; exact hl2 k' hkl
          have lz := lt_of_heap hl1
          have HR0 : Hid (GSt (fun b => w.heap.size ≤ b ∧ (b < W5.heap.size ∨ W6.heap.size ≤ b)) wr bg bl lc bp ss Fs (.slice (some ⟨gp, 0, none⟩) md3.length cpv) md3 count3 ∧ Kept (fun _ => False) w wr ∧ Fits3 (62 + 5 * k') ss) := ⟨G, hK, hF⟩
          clear G hK hF hl1 hl2
          go_wp2
          go_loopw [21] (fun jv wr => ∃ (j' : Nat) (ss : Nat → Pr) (Fs : Nat → Nat → Prop), j' ≤ 5 ∧ jv = .int .i64 j' ∧ GSt (fun b => w.heap.size ≤ b ∧ (b < W5.heap.size ∨ W6.heap.size ≤ b)) wr bg bl lc bp ss Fs (.slice (some ⟨gp, 0, none⟩) md3.length cpv) md3 count3 ∧ Kept (fun _ => False) w wr ∧ W6.heap.size ≤ wr.heap.size ∧ Hid (∀ (j : Nat) (b : List UInt8), strs[j]? = some b → wr.cell? ⟨W5.heap.size, j, none⟩ = some (.string ⟨b.toArray⟩)) ∧ Fits3 (62 + 5 * k' + j') ss) (fun jv _ => 5 - (intOf jv).toNat)
          case atStart => exact ⟨0, ss, Fs, by omega, rfl, HR0.out.1, HR0.out.2.1, hsz, hcs, HR0.out.2.2⟩
          case round =>
            clear HR0 hcs hsz c0 cl cz lz
            obtain ⟨j', ss, Fs, hj5, rfl, G, hK, hsz, hcs, hF⟩ := hrel
            obtain ⟨wo, hwo⟩ : ∃ x, x = wr := ⟨_, rfl⟩
            subst hwo
            by_cases hjl : j' < 5
            · have hjli : (j' : Int) < 5 := by omega
              obtain ⟨b, hb⟩ : ∃ b, strs[j']? = some b := ⟨_, List.getElem?_eq_getElem (by omega)⟩
              obtain ⟨fit, psz⟩ := hF k' hkl
              have hl3 := fit.len
              have hkw := known_pm (ss k') 3 (bp k') (Fs k') wo (G.peers k' hkl) fit
              have htx := fun W (hW : Kept (fun _ => False) wo W) => text_pm (ss k') (bp k') (Fs k') W ((G.peers k' hkl).quiet hW) (by unfold psize at psz; omega) fit.row
              obtain ⟨T, hT⟩ : ∃ T : ByteArray, (⟨(textBytes (ss k').row).toArray⟩ : ByteArray) = T := ⟨_, rfl⟩
              rw [hT] at htx
              have cb := hcs.out j' b hb
              have cbz := World.block_lt_of_cell? wo _ cb
              go_wp2_with fail
              refine hkw.mono ?_
              rintro e7 w7 ⟨rfl, hcw, hk7⟩
              rw [hl3]
              clear hkw
              go_wp2_with fail
              refine (htx _ hk7).mono ?_
              rintro e8 w8 ⟨rfl, hk8⟩
              have hk78 := hk7.trans' hk8
              have cb8 := hk78.cell' cb (fun h => h)
              have cb8z := Nat.lt_of_lt_of_le cbz hk78.size
              obtain ⟨PK, hPK⟩ : ∃ PK : ByteArray, (⟨b.toArray⟩ : ByteArray) = PK := ⟨_, rfl⟩
              rw [hPK] at cb8
              obtain ⟨W2, hW2⟩ : ∃ W2, W2 = w8.alloc (.cells #[.string PK] 9) := ⟨_, rfl⟩
              have hk2 : Kept (fun _ => False) w8 W2 := by rw [hW2]; exact (Kept.refl _ w8).alloc _
              have hb2 : W2.heap[w8.heap.size]? = some (.cells #[.string PK] 9 (0, 0)) := by rw [hW2]; exact heap_alloc_new w8 _
              have hko2 := hk78.trans' hk2
              have hrc := receive_any (ss k') 3 (bp k') (Fs k') [b] (some ⟨w8.heap.size, 0, none⟩) 1 W2 ((G.peers k' hkl).quiet hko2) fit (by simp; omega)
                (fun _ => ⟨w8.heap.size, rfl, fun q l' hq => by
                  cases q with
                  | zero => simp at hq; subst hq; rw [Lib.cell_of_heap hb2, hPK]; rfl
                  | succ q => simp at hq⟩)
                (fun ad had hf => by cases had; have h1 := (G.peers k' hkl).lt _ hf; have h2 := hk78.size; have h3 : w8.heap.size < wo.heap.size := h1; omega)
              have hone : recvAllF 3 (ss k') [b] = recvF 3 (ss k') b := by
                unfold recvAllF
                split
                · rename_i h
                  show ((recvF 3 (ss k') b).1, (recvF 3 (ss k') b).2.1 + 0, (0 : Int)) = _
                  rw [Nat.add_zero, ← h]
                · rfl
              rw [hone] at hrc
              obtain ⟨nn, hnn⟩ : ∃ nn, (recvF 3 (ss k') b).2.1 = nn := ⟨_, rfl⟩
              obtain ⟨ee, hee⟩ : ∃ ee, (recvF 3 (ss k') b).2.2 = ee := ⟨_, rfl⟩
              obtain ⟨s', hs'⟩ : ∃ s', (recvF 3 (ss k') b).1 = s' := ⟨_, rfl⟩
              obtain ⟨f1, f2, f3⟩ := recvF_fit fit b
              have herr := recvF_err (N := 3) (ss k') b
              have hsame : ee ≠ 0 → s' = ss k' ∧ nn = 0 := fun h => by
                have := recvF_same (N := 3) (ss k') b (by rw [hee]; exact h)
                rw [hs', hnn] at this; exact this
              have h6 : j' < 4 → ee = 6 := fun h => by rw [← hee, recvF_bad (ss k') b (hbad.out j' b h hb)]
              rw [hnn, hee, hs'] at hrc
              rw [hs'] at f1 f2
              rw [hnn] at f3
              rw [hee] at herr
              have HW2 : Hid (W2 = w8.alloc (.cells #[.string PK] 9)) := hW2
              have HC : Hid (GSt (fun b => w.heap.size ≤ b ∧ (b < W5.heap.size ∨ W6.heap.size ≤ b)) W2 bg bl lc bp ss Fs (.slice (some ⟨gp, 0, none⟩) md3.length cpv) md3 count3 ∧ Kept (fun _ => False) w W2 ∧ Kept (fun _ => False) wo W2 ∧ W2.heap[wo.heap.size]? = some (.cells (i64s (ss k').known) 3 (0, 0)) ∧ Fits3 (62 + 5 * k' + j') ss ∧ Fit 3 s' ∧ psize s' ≤ psize (ss k') + 1 ∧ (⟨(textBytes (ss k').row).toArray⟩ : ByteArray) = T ∧ wo.heap.size < W2.heap.size ∧ ¬ Fs k' wo.heap.size) := ⟨G.quiet hko2, hK.trans' hko2, hko2, hk2.heap (hk8.heap hcw (fun h => h)) (fun h => h), hF, f1, f2, hT, Nat.lt_of_lt_of_le (lt_of_heap hcw) (Nat.le_trans hk8.size hk2.size), fun hf => absurd ((G.peers k' hkl).lt _ hf) (Nat.lt_irrefl _)⟩
              clear G hK hF fit psz htx hcw hk7 hk8 hk78 hk2 hb2 hko2 hone hnn hee hs' f1 f2 hW2 hT cb cbz hPK
              go_wp2_with fail
              rw [← HW2.out]
              refine hrc.mono ?_
              rintro e9 w9 ⟨rfl, hTn⟩
              obtain ⟨G2, hKw2, hko2, hcw2, hF, fs', ps', hTT, z2, hnF⟩ := HC.out
              obtain ⟨Fs9, G9, K9, K9F, _⟩ := G2.turn (fun b' hb' => ⟨Nat.le_trans hKw2.size hb', Or.inr (Nat.le_trans hsz (Nat.le_trans hko2.size hb'))⟩) hkl hTn
              have hcw9 := K9F.heap hcw2 hnF
              have hcs9 : Hid (∀ (j : Nat) (b : List UInt8), strs[j]? = some b → w9.cell? ⟨W5.heap.size, j, none⟩ = some (.string ⟨b.toArray⟩)) := fun j b' hb' => K9.cell' (hko2.cell' (hcs.out j b' hb') (fun h => h)) (fun h => by have h2 : (W5.heap.size < W5.heap.size ∨ W6.heap.size ≤ W5.heap.size) := h.2; omega)
              have hKw9 : Kept (fun _ => False) w w9 := hKw2.trans K9 (fun i hi h => by have := h.1; omega)
              have hF9 : Fits3 (62 + 5 * k' + (j' + 1)) (upd ss k' s') := fun q hq => by
                by_cases hqk : q = k'
                · subst hqk
                  rw [upd_same]
                  exact ⟨fs', Nat.le_trans ps' (by have := (hF q hq).2; omega)⟩
                · rw [upd_other _ _ _ _ hqk]
                  exact ⟨(hF q hq).1, Nat.le_trans (hF q hq).2 (by omega)⟩
              have hkn := known_pm s' 3 (bp k') (Fs9 k') w9 (by have := G9.peers k' hkl; rw [upd_same] at this; exact this) fs'
              have hl3' := fs'.len
              have H9 : Hid (GSt (fun b => w.heap.size ≤ b ∧ (b < W5.heap.size ∨ W6.heap.size ≤ b)) w9 bg bl lc bp (upd ss k' s') Fs9 (.slice (some ⟨gp, 0, none⟩) md3.length cpv) md3 count3 ∧ Kept (fun _ => False) w w9 ∧ Fits3 (62 + 5 * k' + (j' + 1)) (upd ss k' s') ∧ w9.heap[wo.heap.size]? = some (.cells (i64s (ss k').known) 3 (0, 0)) ∧ (⟨(textBytes (ss k').row).toArray⟩ : ByteArray) = T ∧ W6.heap.size ≤ w9.heap.size) := ⟨G9, hKw9, hF9, hcw9, hTT, Nat.le_trans hsz (Nat.le_trans hko2.size K9.size)⟩
              clear G2 hKw2 hko2 hcw2 hF fs' ps' hTT G9 K9 K9F hTn hcs hnF hKw9 hF9 hcw9 hrc HC HW2 cb8 cb8z
              go_wp2_with fail
              refine hkn.mono ?_
              rintro e10 w10 ⟨rfl, hcn, hk10⟩
              rw [hl3']
              have hcw10 := hk10.heap H9.out.2.2.2.1 (fun h => h)
              have hsm := same_any wo.heap.size w9.heap.size 3 3 (ss k').known s'.known w10 (by rw [hl3]; decide) (by rw [hl3, hl3']) (fun i n hi => by rw [Lib.cell_of_heap hcw10, i64s_at, hi]; rfl) (fun i n hi => by rw [Lib.cell_of_heap hcn, i64s_at, hi]; rfl)
              rw [hl3, hl3'] at hsm
              clear hkn
              go_wp2_with fail
              refine hsm.mono ?_
              rintro e11 w11 ⟨rfl, hk11⟩
              have hk9' : Kept (fun _ => False) w9 w11 := hk10.trans' hk11
              clear hsm hcn hcw10 hk10 hk11
              have hcs11 : Hid (∀ (j : Nat) (b : List UInt8), strs[j]? = some b → w11.cell? ⟨W5.heap.size, j, none⟩ = some (.string ⟨b.toArray⟩)) := fun j b' hb' => hk9'.cell' (hcs9.out j b' hb') (fun h => h)
              have hsz11 : W6.heap.size ≤ w11.heap.size := Nat.le_trans H9.out.2.2.2.2.2 hk9'.size
              go_upto_region 32 with fail
              go_cut [140] (fun v wd => v = .bool false ∧ wd = w11)
              case first =>
                by_cases hj4 : j' < 4
                · have hj4i : (j' : Int) < 4 := by omega
                  have hj4d : decide ((j' : Int) < 4) = true := by rw [decide_eq_true_iff]; exact hj4i
                  have he6 := h6 hj4
                  subst he6
                  clear h6 hsame herr
                  go_wp2_with fail
                  go_meet
                  exact ⟨rfl, rfl⟩
                · have hj4i : ¬ (j' : Int) < 4 := by omega
                  have hj4d : decide ((j' : Int) < 4) = false := by rw [decide_eq_false_iff_not]; exact hj4i
                  clear h6 hsame herr
                  go_wp2_with fail
                  go_meet
                  exact ⟨rfl, rfl⟩
              case rest =>
                obtain ⟨rfl, hwc⟩ := hcut
                rw [hwc]
                clear hwc h6
                by_cases h0 : ee = 0
                · subst h0
                  clear hsame herr
                  go_wp2
                  go_roundw
                  case rel => exact ⟨j' + 1, upd ss k' s', Fs9, by omega, by go_num, H9.out.1.quiet hk9', H9.out.2.1.trans' hk9', hsz11, hcs11, H9.out.2.2.1⟩
                  case measure => simp [intOf]; omega
                · obtain ⟨e1, e2⟩ := hsame h0
                  subst e1
                  subst e2
                  have hta := text_pm (upd ss k' (ss k') k') (bp k') (Fs9 k') w11 ((H9.out.1.peers k' hkl).quiet hk9') (by have := (H9.out.2.2.1 k' hkl).2; unfold psize at this; omega) (H9.out.2.2.1 k' hkl).1.row
                  rw [upd_same, H9.out.2.2.2.2.1] at hta
                  have h0b : (ee == 0) = false := by simpa using h0
                  have hdt : decide ((ss k').known = (ss k').known) = true := by simp
                  rw [hdt]
                  rw [show (((0 : Nat) : Int)) = (0 : Int) from rfl]
                  clear hsame herr hdt
                  go_upto_region 34 with fail
                  go_cut [156] (fun v wd => v = .bool false ∧ Kept (fun _ => False) w11 wd)
                  case first =>
                    go_wp2_with fail
                    refine hta.mono ?_
                    rintro e12 w12 ⟨rfl, hk12⟩
                    clear hta
                    go_wp2_with fail
                    go_meet
                    exact ⟨rfl, hk12⟩
                  case rest =>
                    obtain ⟨rfl, hk12⟩ := hcut
                    have hk912 := hk9'.trans' hk12
                    have hcs12 : Hid (∀ (j : Nat) (b : List UInt8), strs[j]? = some b → wc.cell? ⟨W5.heap.size, j, none⟩ = some (.string ⟨b.toArray⟩)) := fun j b' hb' => hk12.cell' (hcs11.out j b' hb') (fun h => h)
                    have hsz12 : W6.heap.size ≤ wc.heap.size := Nat.le_trans hsz11 hk12.size
                    clear hbad hcs9 hcs11 hk9' hk12 hta
                    go_wp2
                    go_roundw
                    case rel => exact ⟨j' + 1, upd ss k' (ss k'), Fs9, by omega, by go_num, H9.out.1.quiet hk912, H9.out.2.1.trans' hk912, hsz12, hcs12, H9.out.2.2.1⟩
                    case measure => simp [intOf]; omega
            · go_wp2
              go_roundw
              case rel => exact ⟨k' + 1, ss, Fs, by omega, by go_num, G, hK, hsz, hcs, fun q hq => ⟨(hF q hq).1, Nat.le_trans (hF q hq).2 (by omega)⟩⟩
              case measure => simp [intOf]; omega
        · go_wp2
          go_ret
          exact ⟨rfl, hK⟩

end Go.Proofs.Ytgfafbanahiigaa
