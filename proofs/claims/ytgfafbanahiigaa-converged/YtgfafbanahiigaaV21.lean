import Derived.Test.YtgfafbanahiigaaV19
import Derived.Lib.QuietBelow
set_option linter.unusedVariables false
set_option linter.unusedSimpArgs false
namespace Go.Proofs.Ytgfafbanahiigaa
open Go.RowKit Go.Chorus Go.Sort

set_option maxHeartbeats 1000000 in
theorem same_any (ga gb ca cb : Nat) (la lb : List Nat) (w : World) (hla : la.length ≤ 100) (hlb : la.length = lb.length) (ha : ∀ (i n : Nat), la[i]? = some n → w.cell? ⟨ga, i, none⟩ = some (.int .i64 (n : Int))) (hb : ∀ (i n : Nat), lb[i]? = some n → w.cell? ⟨gb, i, none⟩ = some (.int .i64 (n : Int))) :
    Calls Try.prog 20 #[.slice (some ⟨ga, 0, none⟩) la.length ca, .slice (some ⟨gb, 0, none⟩) lb.length cb] w fun e' w' => e' = .returned (.bool (decide (la = lb))) ∧ Kept (fun _ => False) w w' := by
  obtain ⟨n, hn⟩ : ∃ n, lb.length = n := ⟨_, rfl⟩
  have hna : la.length = n := by rw [hlb, hn]
  have HL : Hid (la.length = n ∧ lb.length = n) := ⟨hna, hn⟩
  rw [hna, hn]
  have hn100 : n ≤ 100 := by omega
  clear hlb hla hna hn
  go_enter Try.func20, Try.ntmps20
  go_wp2
  go_loopw [5] (fun i wr => ∃ k : Nat, k ≤ n ∧ i = .int .i64 k ∧ Hid (la.take k = lb.take k) ∧ Kept (fun _ => False) w wr) (fun i _ => n - (intOf i).toNat)
  case atStart => exact ⟨0, Nat.zero_le _, rfl, rfl, Kept.refl _ _⟩
  case round =>
    obtain ⟨k, hk, rfl, hall, hkp⟩ := hrel
    by_cases hlt : k < n
    · obtain ⟨x, hx⟩ : ∃ x, la[k]? = some x := ⟨_, List.getElem?_eq_getElem (by rw [HL.out.1]; exact hlt)⟩
      obtain ⟨y, hy⟩ : ∃ y, lb[k]? = some y := ⟨_, List.getElem?_eq_getElem (by rw [HL.out.2]; exact hlt)⟩
      have c0 := hkp.cell' (ha k x hx) (fun h => h)
      have c1 := hkp.cell' (hb k y hy) (fun h => h)
      have hlt2 : (k : Int) < (n : Int) := by omega
      by_cases hxy : x = y
      · subst hxy
        have HA : Hid (la.take (k + 1) = lb.take (k + 1)) := by
          have h1 : k < la.length := by rw [HL.out.1]; exact hlt
          have h2 : k < lb.length := by rw [HL.out.2]; exact hlt
          show la.take (k + 1) = lb.take (k + 1)
          rw [List.take_succ_eq_append_getElem h1, List.take_succ_eq_append_getElem h2, hall.out, (List.getElem?_eq_some_iff.1 hx).2, (List.getElem?_eq_some_iff.1 hy).2]
        clear hx hy
        go_wp2
        go_quiet (fail)
        go_wp2
        go_roundw
        case rel => exact ⟨k + 1, by omega, by go_num, HA, hkp.drewN _⟩
        case measure => simp [intOf]; omega
      · have e1 : ((x : Int) == (y : Int)) = false := by simp; omega
        have e2 : ¬ (x : Int) = (y : Int) := by omega
        have HD : Hid (decide (la = lb) = false) := by
          show decide (la = lb) = false
          rw [decide_eq_false_iff_not]
          intro e
          rw [e, hy] at hx
          cases hx
          exact hxy rfl
        clear hx hy hxy
        go_wp2
        go_quiet (fail)
        go_wp2
        go_ret
        exact ⟨ret_bool HD.out.symm, hkp.drewN _⟩
    · have HD : Hid (decide (la = lb) = true) := by
        show decide (la = lb) = true
        rw [decide_eq_true_iff]
        have h := hall.out
        rw [List.take_of_length_le (by rw [HL.out.1]; omega), List.take_of_length_le (by rw [HL.out.2]; omega)] at h
        exact h
      go_wp2
      go_ret
      exact ⟨ret_bool HD.out.symm, hkp⟩

set_option maxHeartbeats 4000000 in
set_option maxRecDepth 100000 in
theorem alike_any (a : Option Addr) (n cap : Nat) (w : World) (hn : n ≤ 9223372036854775807) (hs : StepsAt w a n)
    (hstep : ∀ (B : Nat → Prop) (w : World) (bg bl lc : Nat) (bp : Nat → Nat) (ss : Nat → Pr) (Fs : Nat → Nat → Prop) (pv : Value) (mds : List Mk) (count t : Nat) (H : List Ope) (G : GSt B w bg bl lc bp ss Fs pv mds count) (O : GOk t H ss count) (hH : (mds.map Mk.o).reverse = H) (ht : t ≤ 300) (hB : ∀ b, w.heap.size ≤ b → B b)
      (kind peer at_ which : Int) (hki : i64ok kind) (hpe : i64ok peer) (hat : i64ok at_) (hwh : i64ok which),
      Calls Try.prog 19 #[.pointer (some ⟨bg, 0, none⟩), .agg #[.int .i64 kind, .int .i64 peer, .int .i64 at_, .int .i64 which]] w fun e' w' => e' = .returned (.bool true) ∧ Kept B w w' ∧ ∃ (ss' : Nat → Pr) (Fs' : Nat → Nat → Prop) (pv' : Value) (mds' : List Mk) (count' : Nat), GSt B w' bg bl lc bp ss' Fs' pv' mds' count' ∧ GOk (t + 1) ((mds'.map Mk.o).reverse) ss' count') :
    Calls Try.prog 4 #[.slice a n cap] w fun e' w' => e' = .returned (.bool true) ∧ Kept (fun _ => False) w w' := by
  go_enter Try.func4, Try.ntmps4
  go_wp2_with fail
  refine (fresh_any w).mono ?_
  rintro e1 w1 ⟨bg, bl, lc, bp, Fs, rfl, G1, hk1⟩
  go_wp2
  go_loopw [4] (fun i wr => ∃ (k : Nat) (ss : Nat → Pr) (Fs : Nat → Nat → Prop) (pv : Value) (mds : List Mk) (count : Nat), k ≤ n ∧ k ≤ 60 ∧ i = .int .i64 k ∧ GSt (fun b => w.heap.size ≤ b) wr bg bl lc bp ss Fs pv mds count ∧ GOk k ((mds.map Mk.o).reverse) ss count ∧ Kept (fun _ => False) w wr) (fun i _ => 60 - (intOf i).toNat)
  case atStart => exact ⟨0, stNew, Fs, _, [], 0, Nat.zero_le _, Nat.zero_le _, rfl, G1, GOk.start, hk1⟩
  case round =>
    clear G1
    obtain ⟨k, ss, Fs, pv, mds, count, hkn, hk60, rfl, G, O, hK⟩ := hrel
    by_cases hlt : k < n ∧ k < 60
    · obtain ⟨hlt1, hlt2⟩ := hlt
      have hd1 : decide ((k : Int) < (n : Int)) = true := by rw [decide_eq_true_iff]; omega
      have hd2 : decide ((k : Int) < 60) = true := by rw [decide_eq_true_iff]; omega
      have hd3 : (k : Int) < (n : Int) := by omega
      have hd4 : (k : Int) < 60 := by omega
      obtain ⟨b, off, kd, pe, at_, wh, rfl, s0, s1, s2, s3, r0, r1, r2, r3⟩ := (hs.kept hK) k hlt1
      have hst := hstep (fun b => w.heap.size ≤ b) wr bg bl lc bp ss Fs pv mds count k _ G O rfl (by omega) (fun b hb => Nat.le_trans hK.size hb) kd pe at_ wh r0 r1 r2 r3
      go_wp2_with fail
      refine hst.mono ?_
      rintro e2 w2 ⟨rfl, hk2, ss2, Fs2, pv2, mds2, count2, G2, O2⟩
      have hK2 : Kept (fun _ => False) w w2 := hK.trans hk2 (fun i hi h => by have h' : w.heap.size ≤ i := h; omega)
      have HG : Hid (GSt (fun b => w.heap.size ≤ b) w2 bg bl lc bp ss2 Fs2 pv2 mds2 count2 ∧ GOk (k + 1) ((mds2.map Mk.o).reverse) ss2 count2 ∧ Kept (fun _ => False) w w2) := ⟨G2, O2, hK2⟩
      have c0 : w2.cell? ⟨bg, 0, none⟩ = some (.slice (some ⟨bl, 0, none⟩) 3 lc) := by rw [Lib.cell_of_heap G2.block]; rfl
      have cz := lt_of_heap G2.block
      obtain ⟨cur, hl1, hl2⟩ := G2.list
      have cl : ∀ q, q < 3 → w2.cell? ⟨bl, q, none⟩ = some (.pointer (some ⟨bp q, 0, none⟩)) := fun q hq => by rw [Lib.cell_of_heap hl1]; exact hl2 q hq
      have lz := lt_of_heap hl1
      clear hst G O G2 O2 hk2 hK2 s0 s1 s2 s3 hl1 hl2
      go_wp2
      go_loopw [6] (fun av wa => ∃ a' : Nat, a' ≤ 3 ∧ av = .int .i64 a' ∧ Kept (fun _ => False) w2 wa) (fun av _ => 3 - (intOf av).toNat)
      case atStart => exact ⟨0, by omega, rfl, Kept.refl _ _⟩
      case round =>
        obtain ⟨a', ha3, rfl, hKa⟩ := hrel
        by_cases hal : a' < 3
        · have hal2 : (a' : Int) < 3 := by omega
          go_wp2
          go_loopw [7] (fun bv wb => ∃ b' : Nat, b' ≤ a' ∧ bv = .int .i64 b' ∧ Kept (fun _ => False) w2 wb) (fun bv _ => a' - (intOf bv).toNat)
          case atStart => exact ⟨0, by omega, rfl, hKa⟩
          case round =>
            obtain ⟨b', hb3, rfl, hKb⟩ := hrel
            by_cases hbl : b' < a'
            · have hbl2 : (b' : Int) < (a' : Int) := by omega
              obtain ⟨wb, hwb⟩ : ∃ x, x = wr := ⟨_, rfl⟩
              have hb33 : b' < 3 := by omega
              have d0 := hKb.cell' c0 (fun h => h)
              have da := hKb.cell' (cl a' hal) (fun h => h)
              have db := hKb.cell' (cl b' hb33) (fun h => h)
              have dz := Nat.lt_of_lt_of_le cz hKb.size
              have dl := Nat.lt_of_lt_of_le lz hKb.size
              have hb3i : (b' : Int) < 3 := by omega
              have hka := known_pm (ss2 a') 3 (bp a') (Fs2 a') _ ((HG.out.1.peers a' hal).quiet hKb) (HG.out.2.1.fit a' hal)
              go_wp2_with fail
              refine hka.mono ?_
              rintro e3 w3 ⟨rfl, hca, hk3⟩
              have hkb := known_pm (ss2 b') 3 (bp b') (Fs2 b') w3 ((HG.out.1.peers b' hb33).quiet (hKb.trans' hk3)) (HG.out.2.1.fit b' hb33)
              have d0' := hk3.cell' d0 (fun h => h)
              have db' := hk3.cell' db (fun h => h)
              have dz' := Nat.lt_of_lt_of_le dz hk3.size
              have dl' := Nat.lt_of_lt_of_le dl hk3.size
              clear hka
              go_wp2_with fail
              refine hkb.mono ?_
              rintro e4 w4 ⟨rfl, hcb, hk4⟩
              have hca4 := hk4.heap hca (fun h => h)
              have hsm := same_any wr.heap.size w3.heap.size (ss2 a').known.length (ss2 b').known.length (ss2 a').known (ss2 b').known w4 (by rw [(HG.out.2.1.fit a' hal).len]; decide) (by rw [(HG.out.2.1.fit a' hal).len, (HG.out.2.1.fit b' hb33).len]) (fun i n hi => by rw [Lib.cell_of_heap hca4, i64s_at, hi]; rfl) (fun i n hi => by rw [Lib.cell_of_heap hcb, i64s_at, hi]; rfl)
              clear hkb hca hcb hca4
              go_wp2_with fail
              refine hsm.mono ?_
              rintro e5 w5 ⟨rfl, hk5⟩
              have hK5 : Kept (fun _ => False) w2 w5 := ((hKb.trans' hk3).trans' hk4).trans' hk5
              have f0 := hK5.cell' c0 (fun h => h)
              have fa := hK5.cell' (cl a' hal) (fun h => h)
              have fb := hK5.cell' (cl b' hb33) (fun h => h)
              clear hsm hk3 hk4 hk5 d0 da db dz dl d0' db' dz' dl'
              cases hsame : decide ((ss2 a').known = (ss2 b').known) with
              | false =>
                clear hsame
                go_wp2
                go_quiet (fail)
                go_wp2
                go_roundw
                case rel => exact ⟨b' + 1, by omega, by go_num, hK5.drewN _⟩
                case measure => simp [intOf]; omega
              | true =>
                have hkeq : (ss2 a').known = (ss2 b').known := of_decide_eq_true hsame
                have hrow : (ss2 a').row = (ss2 b').row := by
                  have h1 := (HG.out.2.1.ok a' hal).1.view
                  have h2 := (HG.out.2.1.ok b' hb33).1.view
                  have hk : (ss2 b').k = (ss2 a').k := by funext q; unfold Pr.k; rw [hkeq]
                  rw [hk] at h2
                  exact View.alike HG.out.2.1.hist h1 h2
                obtain ⟨S, hS⟩ : ∃ S : ByteArray, (⟨(textBytes (ss2 a').row).toArray⟩ : ByteArray) = S := ⟨_, rfl⟩
                have hrl : ∀ q, q < 3 → (ss2 q).row.length ≤ 4294967296 := fun q hq => by
                  have := HG.out.2.1.size q hq
                  unfold psize at this
                  omega
                have hta : ∀ d os, Calls Try.prog 17 #[.pointer (some ⟨bp a', 0, none⟩)] (grow (redrawn w5 d) os) fun e w'' => e = .returned (.string S) ∧ ∃ p : Regrown, w'' = grow (redrawn w5 p.d) p.os := fun d os => by
                  have hk0 := Kept.of_below_all (below_regrown w5 d os)
                  refine Calls.regrown_of ((text_pm (ss2 a') (bp a') (Fs2 a') _ ((HG.out.1.peers a' hal).quiet (hK5.trans' hk0)) (hrl a' hal) (HG.out.2.1.fit a' hal).row).mono (fun e w' ⟨h1, h2⟩ => ⟨by rw [h1, hS], h2.below _ (Nat.le_refl _) (fun _ h => h.elim)⟩))
                have htb : ∀ d os, Calls Try.prog 17 #[.pointer (some ⟨bp b', 0, none⟩)] (grow (redrawn w5 d) os) fun e w'' => e = .returned (.string S) ∧ ∃ p : Regrown, w'' = grow (redrawn w5 p.d) p.os := fun d os => by
                  have hk0 := Kept.of_below_all (below_regrown w5 d os)
                  refine Calls.regrown_of ((text_pm (ss2 b') (bp b') (Fs2 b') _ ((HG.out.1.peers b' hb33).quiet (hK5.trans' hk0)) (hrl b' hb33) (HG.out.2.1.fit b' hb33).row).mono (fun e w' ⟨h1, h2⟩ => ⟨by rw [h1, ← hrow, hS], h2.below _ (Nat.le_refl _) (fun _ h => h.elim)⟩))
                have g0 := cell_regrown f0
                have ga := cell_regrown fa
                have gb := cell_regrown fb
                clear hsame hkeq hrow hS f0 fa fb
                go_wp2
                go_cut [79] (fun v wc => v = .bool false ∧ Kept (fun _ => False) w5 wc)
                case first =>
                  refine wp_region_quiet_below (by kernel_rfl) (by kernel_rfl) ?_
                  repeat (go_big_quiet_step (first | exact hta _ _ | exact htb _ _))
                  refine wpQuiet_nil ?_
                  intro _ hw'
                  obtain ⟨⟨dq, osq⟩, hw''⟩ := hw'
                  subst hw''
                  go_wp2_with fail
                  go_meet
                  exact ⟨rfl, Kept.of_below_all (below_regrown w5 dq osq)⟩
                case rest =>
                  obtain ⟨rfl, hk9⟩ := hcut
                  go_wp2
                  go_roundw
                  case rel => exact ⟨b' + 1, by omega, by go_num, hK5.trans' hk9⟩
                  case measure => simp [intOf]; omega
            · go_wp2
              go_roundw
              case rel => exact ⟨a' + 1, by omega, by go_num, hKb⟩
              case measure => simp [intOf]; omega
        · go_wp2
          go_roundw
          case rel => exact ⟨k + 1, ss2, Fs2, pv2, mds2, count2, by omega, by omega, by go_num, HG.out.1.quiet hKa, HG.out.2.1, HG.out.2.2.trans' hKa⟩
          case measure => simp [intOf]; omega
    · by_cases h1 : k < n
      · have h2 : ¬ (k : Int) < 60 := by omega
        have h3 : decide ((k : Int) < 60) = false := by rw [decide_eq_false_iff_not]; exact h2
        have h4 : (k : Int) < (n : Int) := by omega
        have h5 : ¬ k < 60 := by omega
        clear hlt
        go_wp2
        all_goals go_ret
        all_goals exact ⟨rfl, hK⟩
      · have h2 : ¬ (k : Int) < (n : Int) := by omega
        have h3 : decide ((k : Int) < (n : Int)) = false := by rw [decide_eq_false_iff_not]; exact h2
        clear hlt
        go_wp2
        all_goals go_ret
        all_goals exact ⟨rfl, hK⟩

end Go.Proofs.Ytgfafbanahiigaa
