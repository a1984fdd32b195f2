import Derived.Test.YtgfafbanahiigaaVG
import Derived.Test.YtgfafbanahiigaaV21
import Derived.Test.YtgfafbanahiigaaV22
import Derived.Test.YtgfafbanahiigaaHG
import Derived.Deep.CutBlock
set_option linter.unusedVariables false
set_option linter.unusedSimpArgs false
namespace Go.Proofs.Ytgfafbanahiigaa
open Go.RowKit Go.Chorus Go.Sort

set_option maxHeartbeats 20000000 in
set_option maxRecDepth 100000 in
theorem converged_any (a : Option Addr) (n cap : Nat) (w : World) (hn : n ≤ 9223372036854775807) (hs : StepsAt w a n)
    (hstep : ∀ (B : Nat → Prop) (w : World) (bg bl lc : Nat) (bp : Nat → Nat) (ss : Nat → Pr) (Fs : Nat → Nat → Prop) (pv : Value) (mds : List Mk) (count t : Nat) (H : List Ope) (G : GSt B w bg bl lc bp ss Fs pv mds count) (O : GOk t H ss count) (hH : (mds.map Mk.o).reverse = H) (ht : t ≤ 300) (hB : ∀ b, w.heap.size ≤ b → B b)
      (kind peer at' which' : Int) (hki : i64ok kind) (hpe : i64ok peer) (hat : i64ok at') (hwh : i64ok which'),
      Calls Try.prog 19 #[.pointer (some ⟨bg, 0, none⟩), .agg #[.int .i64 kind, .int .i64 peer, .int .i64 at', .int .i64 which']] w fun e' w' => e' = .returned (.bool true) ∧ Kept B w w' ∧ ∃ (ss' : Nat → Pr) (Fs' : Nat → Nat → Prop) (pv' : Value) (mds' : List Mk) (count' : Nat), GSt B w' bg bl lc bp ss' Fs' pv' mds' count' ∧ GOk (t + 1) ((mds'.map Mk.o).reverse) ss' count') :
    Calls Try.prog 10 #[.slice a n cap] w fun e' w' => e' = .returned (.bool true) ∧ Kept (fun _ => False) w w' := by
  go_enter Try.func10, Try.ntmps10
  go_wp2_with fail
  refine (fresh_any w).mono ?_
  rintro e1 w1 ⟨bg, bl, lc, bp, Fs, rfl, G1, hk1⟩
  go_upto_block 0 with fail
  go_cut [4] (fun iv wd => Hid (∃ (t : Nat) (ss : Nat → Pr) (ops : List Ope) (count : Nat), t ≤ 60 ∧ Cv w wd bg bl lc bp t ss ops count))
  case first =>
    go_wp2
    go_loopw [4] (fun i wr => ∃ (k : Nat) (ss : Nat → Pr) (Fs : Nat → Nat → Prop) (pv : Value) (mds : List Mk) (count : Nat), k ≤ n ∧ k ≤ 60 ∧ i = .int .i64 k ∧ GSt (fun b => w.heap.size ≤ b) wr bg bl lc bp ss Fs pv mds count ∧ GOk k ((mds.map Mk.o).reverse) ss count ∧ Kept (fun _ => False) w wr) (fun i _ => 60 - (intOf i).toNat)
    case atStart => exact ⟨0, stNew, Fs, _, [], 0, Nat.zero_le _, Nat.zero_le _, rfl, G1, GOk.start, hk1⟩
    case round =>
      clear G1
      obtain ⟨k, ss, Fs, pv, mds, count, hkn, hk60, rfl, G, O, hK⟩ := hrel
      by_cases hlt : k < n ∧ k < 60
      · obtain ⟨hlt1, hlt2⟩ := hlt
        have hd1 : decide ((k : Int) < (n : Int)) = true := by rw [decide_eq_true_iff]; omega
        have hd2 : decide ((k : Int) < 60) = true := by rw [decide_eq_true_iff]; omega
        have hd3 : (k : Int) < (n : Int) := by omega
        have hd4 : (k : Int) < 60 := by omega
        obtain ⟨b, off, kd, pe, atx, wh, rfl, s0, s1, s2, s3, r0, r1, r2, r3⟩ := (hs.kept hK) k hlt1
        have hst := hstep (fun b => w.heap.size ≤ b) wr bg bl lc bp ss Fs pv mds count k _ G O rfl (by omega) (fun b hb => Nat.le_trans hK.size hb) kd pe atx wh r0 r1 r2 r3
        go_wp2_with fail
        refine hst.mono ?_
        rintro e2 w2 ⟨rfl, hk2, ss2, Fs2, pv2, mds2, count2, G2, O2⟩
        have hK2 : Kept (fun _ => False) w w2 := hK.trans hk2 (fun i hi h => by have h' : w.heap.size ≤ i := h; omega)
        have HG : Hid (GSt (fun b => w.heap.size ≤ b) w2 bg bl lc bp ss2 Fs2 pv2 mds2 count2 ∧ GOk (k + 1) ((mds2.map Mk.o).reverse) ss2 count2 ∧ Kept (fun _ => False) w w2) := ⟨G2, O2, hK2⟩
        clear hst G O G2 O2 hk2 hK2 s0 s1 s2 s3
        go_wp2
        go_roundw
        case rel => exact ⟨k + 1, ss2, Fs2, pv2, mds2, count2, by omega, by omega, by go_num, HG.out.1, HG.out.2.1, HG.out.2.2⟩
        case measure => simp [intOf]; omega
      · have HZ : Hid (∃ (t : Nat) (ss : Nat → Pr) (ops : List Ope) (count : Nat), t ≤ 60 ∧ Cv w wr bg bl lc bp t ss ops count) := ⟨k, ss, mds.map Mk.o, count, hk60, Fs, pv, mds, rfl, G, O, hK⟩
        clear hs hstep G O hK
        by_cases h1 : k < n
        · have h2 : ¬ (k : Int) < 60 := by omega
          have h3 : decide ((k : Int) < 60) = false := by rw [decide_eq_false_iff_not]; exact h2
          have h4 : (k : Int) < (n : Int) := by omega
          have h5 : ¬ k < 60 := by omega
          clear hlt
          go_wp2_with fail
          all_goals
            go_meet
            exact HZ
        · have h2 : ¬ (k : Int) < (n : Int) := by omega
          have h3 : decide ((k : Int) < (n : Int)) = false := by rw [decide_eq_false_iff_not]; exact h2
          clear hlt
          go_wp2_with fail
          all_goals
            go_meet
            exact HZ
  case rest =>
    clear G1 hs hstep hk1
    obtain ⟨t0, ss0, ops, count, ht0, X0⟩ := hcut.out
    have hol : ops.length ≤ 60 := by
      have := X0.ok.1.len
      rw [List.length_reverse] at this
      omega
    have hcb : count ≤ 60 := Nat.le_trans X0.ok.1.cnt ht0
    obtain ⟨H, hH⟩ : ∃ H, ops.reverse = H := ⟨_, rfl⟩
    have HX0 : Hid (∃ (t : Nat) (ss : Nat → Pr), Cv w wc bg bl lc bp t ss ops count ∧ t ≤ 60 + 1620 * 0 ∧ (1 ≤ 0 → ∀ j, j < 3 → Know H (ss j))) := ⟨t0, ss0, X0, by omega, fun h => by omega⟩
    clear X0 hcut
    go_upto_block 2 with fail
    obtain ⟨wa, hwa⟩ : ∃ x, x = wc := ⟨_, rfl⟩
    subst hwa
    go_cut [6] (fun iv wd => Hid (∃ (t : Nat) (ss : Nat → Pr), Cv w wd bg bl lc bp t ss ops count ∧ t ≤ 6000 ∧ ∀ j, j < 3 → Know H (ss j)))
    case first =>
      go_wp2
      go_loopw [6] (fun rv wr => ∃ r : Nat, r ≤ 3 ∧ rv = .int .i64 r ∧ Hid (∃ (t : Nat) (ss : Nat → Pr), Cv w wr bg bl lc bp t ss ops count ∧ t ≤ 60 + 1620 * r ∧ (1 ≤ r → ∀ j, j < 3 → Know H (ss j)))) (fun rv _ => 3 - (intOf rv).toNat)
      case atStart => exact ⟨0, Nat.zero_le _, rfl, HX0⟩
      case round =>
        clear HX0
        obtain ⟨r, hr3, rfl, X⟩ := hrel
        by_cases hr : r < 3
        · have hri : (r : Int) < 3 := by omega
          have XA : Hid (∃ (t : Nat) (ss : Nat → Pr), Cv w wr bg bl lc bp t ss ops count ∧ t ≤ 60 + 1620 * r + 540 * 0 ∧ ∀ j, j < 0 → Know H (ss j)) := by
            obtain ⟨t, ss, h1, h2, _⟩ := X.out
            exact ⟨t, ss, h1, by omega, fun j hj => absurd hj (Nat.not_lt_zero _)⟩
          clear X
          go_wp2
          go_loopw [7] (fun av wr => ∃ a' : Nat, a' ≤ 3 ∧ av = .int .i64 a' ∧ Hid (∃ (t : Nat) (ss : Nat → Pr), Cv w wr bg bl lc bp t ss ops count ∧ t ≤ 60 + 1620 * r + 540 * a' ∧ ∀ j, j < a' → Know H (ss j))) (fun av _ => 3 - (intOf av).toNat)
          case atStart => exact ⟨0, Nat.zero_le _, rfl, XA⟩
          case round =>
            clear XA
            obtain ⟨a', ha3, rfl, X⟩ := hrel
            by_cases hal : a' < 3
            · have hai : (a' : Int) < 3 := by omega
              have XB : Hid (∃ (t : Nat) (ss : Nat → Pr), Cv w wr bg bl lc bp t ss ops count ∧ t ≤ 60 + 1620 * r + 540 * a' + 180 * 0 ∧ (∀ j, j < a' → Know H (ss j)) ∧ ∀ i, i < 0 → Go.Chorus.cnt H i ≤ (ss a').k i) := by
                obtain ⟨t, ss, h1, h2, h3⟩ := X.out
                exact ⟨t, ss, h1, by omega, h3, fun j hj => absurd hj (Nat.not_lt_zero _)⟩
              clear X
              go_wp2
              go_loopw [8] (fun bv wr => ∃ b' : Nat, b' ≤ 3 ∧ bv = .int .i64 b' ∧ Hid (∃ (t : Nat) (ss : Nat → Pr), Cv w wr bg bl lc bp t ss ops count ∧ t ≤ 60 + 1620 * r + 540 * a' + 180 * b' ∧ (∀ j, j < a' → Know H (ss j)) ∧ ∀ i, i < b' → Go.Chorus.cnt H i ≤ (ss a').k i)) (fun bv _ => 3 - (intOf bv).toNat)
              case atStart => exact ⟨0, Nat.zero_le _, rfl, XB⟩
              case round =>
                clear XB
                obtain ⟨b', hb3, rfl, X⟩ := hrel
                obtain ⟨t, ss, Y, htb, hkn, hkb⟩ := X.out
                clear X
                by_cases hbl : b' < 3
                · have hbi : (b' : Int) < 3 := by omega
                  have hown : ∀ j, j < 3 → (ss j).k j = Go.Chorus.cnt H j := fun j hj => by
                    have h1 := (Y.ok.1.ok j hj).1.own
                    rw [Y.ok.1.me j hj, hH] at h1
                    exact h1
                  by_cases hab : a' = b'
                  · subst hab
                    have X6 : Hid (∃ (t : Nat) (ss : Nat → Pr), Cv w wr bg bl lc bp t ss ops count ∧ t ≤ 60 + 1620 * r + 540 * a' + 180 * (a' + 1) ∧ (∀ j, j < a' → Know H (ss j)) ∧ ∀ i, i < a' + 1 → Go.Chorus.cnt H i ≤ (ss a').k i) := by
                      refine ⟨t, ss, Y, by omega, hkn, fun i hi => ?_⟩
                      by_cases hia : i = a'
                      · rw [hia, hown a' hal]
                        exact Nat.le_refl _
                      · exact hkb i (by omega)
                    clear Y hkn hkb hown
                    go_wp2
                    go_roundw
                    case rel => exact ⟨a' + 1, by omega, by go_num, X6⟩
                    case measure => simp [intOf]; omega
                  · have habi : ¬ (a' : Int) = (b' : Int) := by omega
                    have habb : ((a' : Int) == (b' : Int)) = false := by rw [beq_eq_false_iff_ne]; exact habi
                    obtain ⟨c0, _, cl, z0, z1⟩ := cv_cells Y
                    have cla := cl a' hal
                    have clb := cl b' hbl
                    obtain ⟨wo, hwo⟩ : ∃ x, x = wr := ⟨_, rfl⟩
                    subst hwo
                    have hkn3 : (ss a').known.length = 3 := (Y.ok.1.fit a' hal).len
                    have hknb := (Y.ok.1.fit a' hal).known
                    have HX : Hid (Cv w wo bg bl lc bp t ss ops count) := Y
                    have HKN : Hid ((∀ j, j < a' → Know H (ss j)) ∧ (∀ i, i < b' → Go.Chorus.cnt H i ≤ (ss a').k i) ∧ ∀ j, j < 3 → (ss j).k j = Go.Chorus.cnt H j) := ⟨hkn, hkb, hown⟩
                    clear Y cl hkn hkb hown
                    go_wp2_with fail
                    go_cut [9, 10] (fun lv ev wc => ev = .int .i64 0 ∧ Hid (RestOk wo.heap.size (ss a').known (ss b').log wc lv ∧ Kept (fun _ => False) wo wc))
                    case first =>
                      refine wp_region_byB (by kernel_rfl) _ rfl (by kernel_rfl) (fun i v wx => match i with
                        | 0 => v = .pointer (some ⟨bg, 0, none⟩)
                        | 1 => v = .pointer (some ⟨bg, 0, none⟩)
                        | 2 => v = .pointer (some ⟨bg, 0, none⟩)
                        | 3 => v = .slice (some ⟨bl, 0, none⟩) 3 lc
                        | 4 => v = .int .i64 b'
                        | 5 => v = .pointer (some ⟨bl, b', none⟩)
                        | 6 => v = .pointer (some ⟨bp b', 0, none⟩)
                        | 7 => v = .pointer (some ⟨bg, 0, none⟩)
                        | 8 => v = .pointer (some ⟨bg, 0, none⟩)
                        | 9 => v = .pointer (some ⟨bg, 0, none⟩)
                        | 10 => v = .slice (some ⟨bl, 0, none⟩) 3 lc
                        | 11 => v = .int .i64 a'
                        | 12 => v = .pointer (some ⟨bl, a', none⟩)
                        | 13 => v = .pointer (some ⟨bp a', 0, none⟩)
                        | 14 => ∃ kb, v = .slice (some ⟨kb, 0, none⟩) 3 3 ∧ wx.heap[kb]? = some (.cells (i64s (ss a').known) 3 (0, 0))
                        | 15 => ∃ pv, v = .tuple #[pv, .int .i64 0] ∧ RestOk wo.heap.size (ss a').known (ss b').log wx pv
                        | 16 => ∃ pv, v = .tuple #[pv, .int .i64 0] ∧ RestOk wo.heap.size (ss a').known (ss b').log wx pv
                        | 17 => RestOk wo.heap.size (ss a').known (ss b').log wx v
                        | 18 => v = .int .i64 0
                        | 19 => RestOk wo.heap.size (ss a').known (ss b').log wx v
                        | _ => v = .int .i64 0) ?_ ?_ ?_
                      · intro i v wx wy hv hk
                        split at hv
                        case h_15 =>
                          obtain ⟨kb, h1, h2⟩ := hv
                          exact ⟨kb, h1, hk.heap h2 (fun h => h)⟩
                        case h_16 =>
                          obtain ⟨pv, h1, h2⟩ := hv
                          exact ⟨pv, h1, h2.quiet hk⟩
                        case h_17 =>
                          obtain ⟨pv, h1, h2⟩ := hv
                          exact ⟨pv, h1, h2.quiet hk⟩
                        case h_18 => exact RestOk.quiet hv hk
                        case h_20 => exact RestOk.quiet hv hk
                        all_goals exact hv
                      · intro i o hi a2 wx up
                        have hkx : Kept (fun _ => False) wo wx := ((Kept.refl _ wo).drew).trans' up.kept
                        have d0 := hkx.cell' c0 (fun h => h)
                        have da := hkx.cell' cla (fun h => h)
                        have db := hkx.cell' clb (fun h => h)
                        have hold : ∀ d : Nat, (d = 3 ∨ d = 7 ∨ d = 8) → a2.tmps[d]? = _ := fun d hd => up.old d (by
                          intro j oj hj hjd
                          exfalso
                          rcases j with _ | _ | _ | _ | _ | _ | _ | _ | _ | _ | _ | _ | _ | _ | _ | _ | _ | _ | _ | _ | _ | j <;> simp at hj <;> subst hj <;> simp at hjd <;> omega)
                        have o3 := hold 3 (by decide)
                        have o7 := hold 7 (by decide)
                        have o8 := hold 8 (by decide)
                        simp at o3 o7 o8
                        clear hold
                        rcases i with _ | _ | _ | _ | _ | _ | _ | _ | _ | _ | _ | _ | _ | _ | _ | _ | _ | _ | _ | _ | _ | i
                        all_goals simp only [List.getElem?_cons_zero, List.getElem?_cons_succ, List.getElem?_nil, Option.some.injEq, reduceCtorEq] at hi
                        all_goals try subst hi
                        · simp [Oper.wp, go_sem, Act.eval, o3]
                          exact ⟨_, rfl, rfl, Kept.refl _ _⟩
                        · obtain ⟨v0, s0, hv0⟩ := up.dep ⟨0, .data⟩ (by simp) rfl _ 63 rfl rfl
                          have hv0 : v0 = _ := hv0
                          subst hv0
                          simp [Oper.wp, go_sem, Act.eval, s0]
                          exact ⟨_, rfl, rfl, Kept.refl _ _⟩
                        · obtain ⟨v0, s0, hv0⟩ := up.dep ⟨1, .data⟩ (by simp) rfl _ 64 rfl rfl
                          have hv0 : v0 = _ := hv0
                          subst hv0
                          simp [Oper.wp, go_sem, Act.eval, s0]
                          exact ⟨_, rfl, rfl, Kept.refl _ _⟩
                        · obtain ⟨v0, s0, hv0⟩ := up.dep ⟨2, .data⟩ (by simp) rfl _ 65 rfl rfl
                          have hv0 : v0 = _ := hv0
                          subst hv0
                          simp [Oper.wp, go_sem, Act.eval, s0, d0]
                          exact ⟨_, rfl, rfl, Kept.refl _ _⟩
                        · simp [Oper.wp, go_sem, Act.eval, o8]
                          exact ⟨_, rfl, rfl, Kept.refl _ _⟩
                        · obtain ⟨v0, s0, hv0⟩ := up.dep ⟨3, .data⟩ (by simp) rfl _ 66 rfl rfl
                          have hv0 : v0 = _ := hv0
                          subst hv0
                          obtain ⟨v1, s1, hv1⟩ := up.dep ⟨4, .data⟩ (by simp) rfl _ 67 rfl rfl
                          have hv1 : v1 = _ := hv1
                          subst hv1
                          simp [Oper.wp, go_sem, Act.eval, s0, s1, hbi, hbl]
                          exact ⟨_, rfl, rfl, Kept.refl _ _⟩
                        · obtain ⟨v0, s0, hv0⟩ := up.dep ⟨5, .data⟩ (by simp) rfl _ 68 rfl rfl
                          have hv0 : v0 = _ := hv0
                          subst hv0
                          simp [Oper.wp, go_sem, Act.eval, s0, db]
                          exact ⟨_, rfl, rfl, Kept.refl _ _⟩
                        · simp [Oper.wp, go_sem, Act.eval, o3]
                          exact ⟨_, rfl, rfl, Kept.refl _ _⟩
                        · obtain ⟨v0, s0, hv0⟩ := up.dep ⟨7, .data⟩ (by simp) rfl _ 70 rfl rfl
                          have hv0 : v0 = _ := hv0
                          subst hv0
                          simp [Oper.wp, go_sem, Act.eval, s0]
                          exact ⟨_, rfl, rfl, Kept.refl _ _⟩
                        · obtain ⟨v0, s0, hv0⟩ := up.dep ⟨8, .data⟩ (by simp) rfl _ 71 rfl rfl
                          have hv0 : v0 = _ := hv0
                          subst hv0
                          simp [Oper.wp, go_sem, Act.eval, s0]
                          exact ⟨_, rfl, rfl, Kept.refl _ _⟩
                        · obtain ⟨v0, s0, hv0⟩ := up.dep ⟨9, .data⟩ (by simp) rfl _ 72 rfl rfl
                          have hv0 : v0 = _ := hv0
                          subst hv0
                          simp [Oper.wp, go_sem, Act.eval, s0, d0]
                          exact ⟨_, rfl, rfl, Kept.refl _ _⟩
                        · simp [Oper.wp, go_sem, Act.eval, o7]
                          exact ⟨_, rfl, rfl, Kept.refl _ _⟩
                        · obtain ⟨v0, s0, hv0⟩ := up.dep ⟨10, .data⟩ (by simp) rfl _ 73 rfl rfl
                          have hv0 : v0 = _ := hv0
                          subst hv0
                          obtain ⟨v1, s1, hv1⟩ := up.dep ⟨11, .data⟩ (by simp) rfl _ 74 rfl rfl
                          have hv1 : v1 = _ := hv1
                          subst hv1
                          simp [Oper.wp, go_sem, Act.eval, s0, s1, hai, hal]
                          exact ⟨_, rfl, rfl, Kept.refl _ _⟩
                        · obtain ⟨v0, s0, hv0⟩ := up.dep ⟨12, .data⟩ (by simp) rfl _ 75 rfl rfl
                          have hv0 : v0 = _ := hv0
                          subst hv0
                          simp [Oper.wp, go_sem, Act.eval, s0, da]
                          exact ⟨_, rfl, rfl, Kept.refl _ _⟩
                        · obtain ⟨v0, s0, hv0⟩ := up.dep ⟨13, .data⟩ (by simp) rfl _ 76 rfl rfl
                          have hv0 : v0 = _ := hv0
                          subst hv0
                          simp [Oper.wp, go_sem, Act.eval, s0]
                          refine (cv_known (HX.out.quiet hkx) a' hal).mono ?_
                          rintro e w' ⟨rfl, h1, h2⟩
                          exact ⟨_, rfl, ⟨_, rfl, h1⟩, h2⟩
                        · obtain ⟨v0, s0, hv0⟩ := up.dep ⟨6, .data⟩ (by simp) rfl _ 69 rfl rfl
                          have hv0 : v0 = _ := hv0
                          subst hv0
                          obtain ⟨v1, s1, kb, hv1, hkb1⟩ := up.dep ⟨14, .data⟩ (by simp) rfl _ 77 rfl rfl
                          subst hv1
                          simp [Oper.wp, go_sem, Act.eval, s0, s1]
                          refine (cv_rest (HX.out.quiet hkx) b' hbl (ss a').known hkn3 hknb kb 3 hkb1).mono ?_
                          rintro e w' ⟨pv, rfl, ⟨L, h1, h2, h3⟩, h4⟩
                          exact ⟨_, rfl, ⟨pv, rfl, L, h1, h2, fun b hb => Nat.le_trans hkx.size (h3 b hb)⟩, h4⟩
                        · obtain ⟨v0, s0, pv, hv0, hR⟩ := up.dep ⟨15, .data⟩ (by simp) rfl _ 78 rfl rfl
                          subst hv0
                          simp [Oper.wp, go_sem, Act.eval, s0]
                          exact ⟨_, rfl, ⟨pv, rfl, hR⟩, Kept.refl _ _⟩
                        · obtain ⟨v0, s0, pv, hv0, hR⟩ := up.dep ⟨16, .data⟩ (by simp) rfl _ 62 rfl rfl
                          subst hv0
                          simp [Oper.wp, go_sem, Act.eval, s0]
                          exact ⟨_, rfl, hR, Kept.refl _ _⟩
                        · obtain ⟨v0, s0, pv, hv0, hR⟩ := up.dep ⟨16, .data⟩ (by simp) rfl _ 62 rfl rfl
                          subst hv0
                          simp [Oper.wp, go_sem, Act.eval, s0]
                          exact ⟨_, rfl, rfl, Kept.refl _ _⟩
                        · obtain ⟨v0, s0, hR⟩ := up.dep ⟨17, .data⟩ (by simp) rfl _ 79 rfl rfl
                          simp [Oper.wp, go_sem, Act.eval, s0]
                          exact ⟨_, rfl, hR, Kept.refl _ _⟩
                        · obtain ⟨v0, s0, hv0⟩ := up.dep ⟨18, .data⟩ (by simp) rfl _ 80 rfl rfl
                          have hv0 : v0 = _ := hv0
                          subst hv0
                          simp [Oper.wp, go_sem, Act.eval, s0]
                          exact ⟨_, rfl, rfl, Kept.refl _ _⟩
                      · intro vals wx hk hv
                        have h20 : vals 20 = _ := hv 20 (by decide)
                        have h19 := hv 19 (by decide)
                        simp only [] at h19
                        obtain ⟨lv, hlv⟩ : ∃ x, vals 19 = x := ⟨_, rfl⟩
                        rw [hlv] at h19
                        have HRR : Hid (RestOk wo.heap.size (ss a').known (ss b').log wx lv ∧ Kept (fun _ => False) wo wx) := ⟨h19, ((Kept.refl _ wo).drew).trans' hk⟩
                        clear hv hk h19
                        simp only [putAll, Act.put, h20, hlv]
                        simp only [Nat.reduceAdd, Nat.zero_add, List.setIfInBounds_toArray, List.set_cons_succ, List.set_cons_zero]
                        go_wp2_with fail
                        go_meet
                        exact ⟨rfl, HRR⟩
                    case rest =>
                      obtain ⟨rfl, HRR⟩ := hcut
                      have hrc := cv_recv HX.out HRR.out.2 (by omega) hol a' b' hal hbl _ HRR.out.1
                      have d0 := HRR.out.2.cell' c0 (fun h => h)
                      have da := HRR.out.2.cell' cla (fun h => h)
                      have y0 : bg < wc.heap.size := Nat.lt_of_lt_of_le z0 HRR.out.2.size
                      have y1 : bl < wc.heap.size := Nat.lt_of_lt_of_le z1 HRR.out.2.size
                      clear HRR c0 cla clb z0 z1 hkn3 hknb HX
                      go_wp2_with fail
                      refine hrc.mono ?_
                      rintro e5 w5 ⟨m5, rfl, hm5, t', s', ht', Y5, g1, g2⟩
                      have X6 : Hid (∃ (t : Nat) (ss : Nat → Pr), Cv w w5 bg bl lc bp t ss ops count ∧ t ≤ 60 + 1620 * r + 540 * a' + 180 * (b' + 1) ∧ (∀ j, j < a' → Know H (ss j)) ∧ ∀ i, i < b' + 1 → Go.Chorus.cnt H i ≤ (ss a').k i) := by
                        refine ⟨t', upd ss a' s', Y5, by omega, fun j hj => ?_, fun i hi => ?_⟩
                        · rw [upd_other _ _ _ _ (by omega)]
                          exact HKN.out.1 j hj
                        · rw [upd_same]
                          by_cases hib : i = b'
                          · rw [hib, ← HKN.out.2.2 b' hbl]
                            exact g2 b'
                          · exact Nat.le_trans (HKN.out.2.1 i (by omega)) (g1 i)
                      clear hrc Y5 g1 g2 HKN d0 da y0 y1
                      go_wp2
                      go_roundw
                      case rel => exact ⟨b' + 1, by omega, by go_num, X6⟩
                      case measure => simp [intOf]; omega
                · have hbi : ¬ (b' : Int) < 3 := by omega
                  have hbd : decide ((b' : Int) < 3) = false := by rw [decide_eq_false_iff_not]; exact hbi
                  have X7 : Hid (∃ (t : Nat) (ss : Nat → Pr), Cv w wr bg bl lc bp t ss ops count ∧ t ≤ 60 + 1620 * r + 540 * (a' + 1) ∧ ∀ j, j < a' + 1 → Know H (ss j)) := by
                    refine ⟨t, ss, Y, by omega, fun j hj => ?_⟩
                    by_cases hja : j = a'
                    · rw [hja]
                      exact fun i hi => hkb i (by omega)
                    · exact hkn j (by omega)
                  clear Y hkn hkb
                  go_wp2
                  go_roundw
                  case rel => exact ⟨a' + 1, by omega, by go_num, X7⟩
                  case measure => simp [intOf]; omega
            · have hai : ¬ (a' : Int) < 3 := by omega
              have had : decide ((a' : Int) < 3) = false := by rw [decide_eq_false_iff_not]; exact hai
              have X8 : Hid (∃ (t : Nat) (ss : Nat → Pr), Cv w wr bg bl lc bp t ss ops count ∧ t ≤ 60 + 1620 * (r + 1) ∧ (1 ≤ r + 1 → ∀ j, j < 3 → Know H (ss j))) := by
                obtain ⟨t, ss, h1, h2, h3⟩ := X.out
                exact ⟨t, ss, h1, by omega, fun _ j hj => h3 j (by omega)⟩
              clear X
              go_wp2
              go_roundw
              case rel => exact ⟨r + 1, by omega, by go_num, X8⟩
              case measure => simp [intOf]; omega
        · have hri : ¬ (r : Int) < 3 := by omega
          have hrd : decide ((r : Int) < 3) = false := by rw [decide_eq_false_iff_not]; exact hri
          have X9 : Hid (∃ (t : Nat) (ss : Nat → Pr), Cv w wr bg bl lc bp t ss ops count ∧ t ≤ 6000 ∧ ∀ j, j < 3 → Know H (ss j)) := by
            obtain ⟨t, ss, h1, h2, h3⟩ := X.out
            exact ⟨t, ss, h1, by omega, h3 (by omega)⟩
          clear X
          go_wp2_with fail
          all_goals
            go_meet
            exact X9
    case rest =>
      clear HX0
      obtain ⟨wb, hwb⟩ : ∃ x, x = wc := ⟨_, rfl⟩
      subst hwb
      obtain ⟨t1, ss, Y, ht1, hKA⟩ := hcut.out
      have HY : Hid (Cv w wb bg bl lc bp t1 ss ops count ∧ ∀ j, j < 3 → Know H (ss j)) := ⟨Y, hKA⟩
      obtain ⟨c0, c2, cl, z0, z1⟩ := cv_cells Y
      clear Y hKA hcut
      have hmi := mk_ints wb
      have hHm : Hid (∀ o ∈ ops, RightOp 3 o) := fun o ho => (HY.out.1.ok.1.right o (List.mem_reverse.2 ho))
      go_upto_block 8 with fail
      go_cut [14, 15] (fun dv iv wd => dv = .int .i64 (dels ops : Nat) ∧ Hid (wd.heap[wb.heap.size]? = some (.cells (i64s (cn3 ops)) 3 (0, 0)) ∧ Kept (fun _ => False) wb wd))
      case first =>
        go_wp2
        go_loopw [14, 15] (fun dv iv wr => ∃ i : Nat, i ≤ ops.length ∧ iv = .int .i64 i ∧ dv = .int .i64 (dels (ops.take i) : Nat) ∧ Hid (wr.heap[wb.heap.size]? = some (.cells (i64s (cn3 (ops.take i))) 3 (0, 0)) ∧ Kept (fun _ => False) wb wr)) (fun _ iv _ => ops.length - (intOf iv).toNat)
        case atStart => exact ⟨0, Nat.zero_le _, rfl, rfl, heap_alloc_new wb _, (Kept.refl _ wb).alloc _⟩
        case round =>
          obtain ⟨i, hil, rfl, rfl, R⟩ := hrel
          obtain ⟨hA, hK⟩ := R.out
          clear R c0 c2 cl z1 hmi
          obtain ⟨pa, pc, e1, e2⟩ := cv_packets HY.out.1
          have f1 := hK.cell' e1 (fun h => h)
          have y0 : bg < wr.heap.size := Nat.lt_of_lt_of_le z0 hK.size
          by_cases hlt : i < ops.length
          · have hlt2 : (i : Int) < (ops.length : Int) := by omega
            obtain ⟨o, ho⟩ : ∃ o, ops[i]? = some o := ⟨_, List.getElem?_eq_getElem hlt⟩
            obtain ⟨gp, rfl, gz, p0, p1⟩ := e2 i o ho
            have hR := hHm.out o (List.mem_of_getElem? ho)
            have hop := hR.peer
            have hopi : (o.peer : Int) < 3 := by omega
            have cA : wr.cell? ⟨wb.heap.size, o.peer, none⟩ = some (.int .i64 (cntp (ops.take i) o.peer : Int)) := by rw [Lib.cell_of_heap hA]; exact cn3_at _ _ hop
            have zA := lt_of_heap hA
            have fA : ∀ j, wr.frozen? ⟨wb.heap.size, j, none⟩ = false := Lib.frozen_of_heap hA
            have hcl : cntp (ops.take i) o.peer ≤ 60 := by
              unfold cntp
              refine Nat.le_trans (List.length_filter_le _ _) ?_
              rw [List.length_take]; omega
            have hdl : dels (ops.take i) ≤ 60 := by
              unfold dels
              refine Nat.le_trans (List.length_filter_le _ _) ?_
              rw [List.length_take]; omega
            have R2 : Hid ((wr.setCell ⟨wb.heap.size, o.peer, none⟩ (.int .i64 ((cntp (ops.take i) o.peer : Int) + 1))).heap[wb.heap.size]? = some (.cells (i64s (cn3 (ops.take (i + 1)))) 3 (0, 0)) ∧ Kept (fun _ => False) wb (wr.setCell ⟨wb.heap.size, o.peer, none⟩ (.int .i64 ((cntp (ops.take i) o.peer : Int) + 1)))) := by
              refine ⟨?_, hK.setCell (p := ⟨wb.heap.size, o.peer, none⟩) (fun h => absurd h (Nat.lt_irrefl _)) _⟩
              rw [heap_set_same hA, take_snoc ops i o ho, cn3_snoc _ _ hop]
            have p0' := hK.cell' p0 (fun h => h)
            have p1' := hK.cell' p1 (fun h => h)
            have q1 := R2.out.2.cell' e1 (fun h => h)
            have q0 := R2.out.2.cell' p0 (fun h => h)
            have gz2 : gp < wr.heap.size := Nat.lt_of_lt_of_le gz hK.size
            obtain ⟨S, hS⟩ : ∃ S : ByteArray, (⟨o.packet.toArray⟩ : ByteArray) = S := ⟨_, rfl⟩
            obtain ⟨pr, hpr⟩ := packet_first o
            have hS0 : S.data = (UInt8.ofNat o.kind :: pr).toArray := by rw [← hS, hpr]
            have hSz : S.size = pr.length + 1 := by
              show S.data.size = _
              rw [hS0]; simp
            rw [hS] at p0' q0
            have hSz2 : (0 : Int) < (pr.length : Int) + 1 := by omega
            have hts := take_snoc ops i o ho
            have hds := dels_snoc (ops.take i) o
            rw [← hts] at hds
            clear hK hA p0 p1 e1 e2 hS hpr hts ho
            cases hin : o.ins with
            | true =>
              have hk : o.kind = 1 := by unfold Ope.kind; rw [hin]; rfl
              rw [hk] at hS0
              have hS1 : (S[0]'(by rw [hSz]; omega)).toNat = 1 := by
                have h1 : S.data[0]? = some (UInt8.ofNat 1) := by rw [hS0]; rfl
                have h2 : S.data[0]? = some (S[0]'(by rw [hSz]; omega)) := Array.getElem?_eq_getElem (by rw [hS0]; simp)
                rw [h2] at h1
                rw [Option.some.inj h1]
                rfl
              clear hS0
              rw [hin] at hds
              have HD : Hid (dels (ops.take (i + 1)) = dels (ops.take i)) := hds
              clear hds hk
              go_wp2
              go_roundw
              case rel => exact ⟨i + 1, by omega, by go_num, by rw [HD.out], R2⟩
              case measure => simp [intOf]; omega
            | false =>
              have hk : o.kind = 2 := by unfold Ope.kind; rw [hin]; rfl
              rw [hk] at hS0
              have hS1 : (S[0]'(by rw [hSz]; omega)).toNat = 2 := by
                have h1 : S.data[0]? = some (UInt8.ofNat 2) := by rw [hS0]; rfl
                have h2 : S.data[0]? = some (S[0]'(by rw [hSz]; omega)) := Array.getElem?_eq_getElem (by rw [hS0]; simp)
                rw [h2] at h1
                rw [Option.some.inj h1]
                rfl
              clear hS0
              rw [hin] at hds
              have HD : Hid (dels (ops.take (i + 1)) = dels (ops.take i) + 1) := hds
              clear hds hk
              go_wp2
              go_roundw
              case rel => exact ⟨i + 1, by omega, by go_num, by rw [HD.out]; go_num, R2⟩
              case measure => simp [intOf]; omega
          · have hlt2 : ¬ (i : Int) < (ops.length : Int) := by omega
            have hlt3 : decide ((i : Int) < (ops.length : Int)) = false := by rw [decide_eq_false_iff_not]; exact hlt2
            obtain rfl : i = ops.length := by omega
            rw [List.take_length] at hA ⊢
            have R2 : Hid (wr.heap[wb.heap.size]? = some (.cells (i64s (cn3 ops)) 3 (0, 0)) ∧ Kept (fun _ => False) wb wr) := ⟨hA, hK⟩
            clear hA hK e1 e2
            go_wp2_with fail
            all_goals
              go_meet
              exact ⟨rfl, R2⟩
      case rest =>
        obtain ⟨rfl, R8⟩ := hcut
        clear hmi
        obtain ⟨wd, hwd⟩ : ∃ x, x = wc := ⟨_, rfl⟩
        subst hwd
        have hHm2 : Hid (∀ n ∈ cn3 ops, n < 4294967296) := fun n hn => by
          have key : ∀ j, cntp ops j ≤ 60 := fun j => by
            unfold cntp
            exact Nat.le_trans (List.length_filter_le _ _) hol
          have h0 := key 0
          have h1 := key 1
          have h2 := key 2
          simp only [cn3, List.mem_cons, List.not_mem_nil, or_false] at hn
          rcases hn with rfl | rfl | rfl <;> omega
        have d0 := R8.out.2.cell' c0 (fun h => h)
        have d1 := fun k hk => R8.out.2.cell' (cl k hk) (fun h => h)
        have d2 := R8.out.2.cell' c2 (fun h => h)
        have y0 : bg < wd.heap.size := Nat.lt_of_lt_of_le z0 R8.out.2.size
        have y1 : bl < wd.heap.size := Nat.lt_of_lt_of_le z1 R8.out.2.size
        have d10 := d1 0 (by decide)
        have htx := cv_text (HY.out.1.quiet R8.out.2) (by omega) 0 (by decide)
        obtain ⟨TX, hTX⟩ : ∃ TX : ByteArray, (⟨(textBytes (ss 0).row).toArray⟩ : ByteArray) = TX := ⟨_, rfl⟩
        rw [hTX] at htx
        clear c0 c2 cl z0 z1
        go_wp2_with fail
        refine htx.mono ?_
        rintro e2 w2 ⟨rfl, hk2⟩
        have HK2 : Hid (Kept (fun _ => False) wb w2 ∧ w2.heap[wb.heap.size]? = some (.cells (i64s (cn3 ops)) 3 (0, 0))) := ⟨R8.out.2.trans' hk2, hk2.heap R8.out.1 (fun h => h)⟩
        have HTX : Hid ((⟨(textBytes (ss 0).row).toArray⟩ : ByteArray) = TX) := hTX
        clear htx hTX d0 d1 d2 d10 y0 y1 hk2 R8
        go_upto_block 10 with fail
        go_cut [17] (fun kv we => Hid (Kept (fun _ => False) w2 we))
        case first =>
          go_wp2
          go_loopw [17] (fun kv wr => ∃ k : Nat, k ≤ 3 ∧ kv = .int .i64 k ∧ Hid (Kept (fun _ => False) w2 wr)) (fun kv _ => 3 - (intOf kv).toNat)
          case atStart => exact ⟨0, Nat.zero_le _, rfl, Kept.refl _ _⟩
          case round =>
            obtain ⟨k, hk3, rfl, hK⟩ := hrel
            by_cases hkl : k < 3
            · have hki : (k : Int) < 3 := by omega
              have X := HY.out.1.quiet (HK2.out.1.trans' hK.out)
              have hal := hK.out.heap HK2.out.2 (fun h => h)
              obtain ⟨c0, _, cl, z0, z1⟩ := cv_cells X
              have clk := cl k hkl
              have hkn := cv_known X k hkl
              have hkno : (ss k).known = cn3 ops := by
                rw [cn3_end, Know.known X.ok.1 hkl (by rw [hH]; exact HY.out.2 k hkl)]
              rw [hkno] at hkn
              have HXX : Hid (Cv w wr bg bl lc bp t1 ss ops count ∧ wr.heap[wb.heap.size]? = some (.cells (i64s (cn3 ops)) 3 (0, 0))) := ⟨X, hal⟩
              clear X hal cl hkno
              go_wp2_with fail
              refine hkn.mono ?_
              rintro e3 w3 ⟨rfl, hb3, hk3'⟩
              have hsm : Calls Try.prog 20 #[.slice (some ⟨wr.heap.size, 0, none⟩) 3 3, .slice (some ⟨wb.heap.size, 0, none⟩) 3 3] w3 fun e' w' => e' = .returned (.bool true) ∧ Kept (fun _ => False) w3 w' := by
                have := same_any wr.heap.size wb.heap.size 3 3 (cn3 ops) (cn3 ops) w3 (by show 3 ≤ 100; decide) rfl (fun i n hi => by rw [Lib.cell_of_heap hb3, i64s_at, hi]; rfl) (fun i n hi => by rw [Lib.cell_of_heap (hk3'.heap HXX.out.2 (fun h => h)), i64s_at, hi]; rfl)
                rw [decide_eq_true (rfl : cn3 ops = cn3 ops)] at this
                exact this
              clear hkn hb3
              go_wp2_with fail
              refine hsm.mono ?_
              rintro e4 w4 ⟨rfl, hk4⟩
              have hK4 : Kept (fun _ => False) wr w4 := hk3'.trans' hk4
              have d0 := hK4.cell' c0 (fun h => h)
              have d1 := hK4.cell' clk (fun h => h)
              have y0 : bg < w4.heap.size := Nat.lt_of_lt_of_le z0 hK4.size
              have y1 : bl < w4.heap.size := Nat.lt_of_lt_of_le z1 hK4.size
              have hrs := cv_rest (HXX.out.1.quiet hK4) k hkl (cn3 ops) rfl hHm2.out wb.heap.size 3 (hK4.heap HXX.out.2 (fun h => h))
              clear hsm c0 clk z0 z1 hk3' hk4
              go_wp2_with fail
              refine hrs.mono ?_
              rintro e5 w5 ⟨pv, rfl, ⟨LL, hm5, hrow5, _⟩, hk5⟩
              have hL0 : LL = [] := by
                rw [cn3_end] at hm5
                exact Know.rest HXX.out.1.ok.1 hkl (by rw [hH]; exact HY.out.2 k hkl) hm5
              subst hL0
              obtain ⟨pa5, pc5, hpv5, _, _⟩ := own_slice hrow5
              have hpv6 : pv = .slice pa5 0 pc5 := hpv5
              clear hpv5
              subst hpv6
              have hK5 : Kept (fun _ => False) wr w5 := hK4.trans' hk5
              have f0 := hk5.cell' d0 (fun h => h)
              have f1 := hk5.cell' d1 (fun h => h)
              have x0 : bg < w5.heap.size := Nat.lt_of_lt_of_le y0 hk5.size
              have x1 : bl < w5.heap.size := Nat.lt_of_lt_of_le y1 hk5.size
              have htx := cv_text (HXX.out.1.quiet hK5) (by omega) k hkl
              have hrw : (ss k).row = (ss 0).row := Know.row HXX.out.1.ok.1 hkl (by decide) (by rw [hH]; exact HY.out.2 k hkl) (by rw [hH]; exact HY.out.2 0 (by decide))
              rw [hrw, HTX.out] at htx
              clear hrs d0 d1 y0 y1 hm5 hrow5 hk5 hK4 hrw
              go_wp2_with fail
              refine htx.mono ?_
              rintro e6 w6 ⟨rfl, hk6⟩
              have HK6 : Hid (Kept (fun _ => False) w2 w6) := (hK.out.trans' hK5).trans' hk6
              clear htx f0 f1 x0 x1 hK5 hk6 HXX hK
              go_wp2
              go_roundw
              case rel => exact ⟨k + 1, by omega, by go_num, HK6⟩
              case measure => simp [intOf]; omega
            · have hki : ¬ (k : Int) < 3 := by omega
              have hkd : decide ((k : Int) < 3) = false := by rw [decide_eq_false_iff_not]; exact hki
              go_wp2_with fail
              all_goals
                go_meet
                exact hK
        case rest =>
          obtain ⟨we, hwe⟩ : ∃ x, x = wc := ⟨_, rfl⟩
          subst hwe
          have hKe : Kept (fun _ => False) wb we := HK2.out.1.trans' hcut.out
          have HYe : Hid (Cv w we bg bl lc bp t1 ss ops count) := HY.out.1.quiet hKe
          obtain ⟨hnd, hrg, hle, hge⟩ := Know.live HYe.out.ok.1 (k := 0) (by decide) (by rw [hH]; exact HY.out.2 0 (by decide))
          rw [dels_rev] at hge
          obtain ⟨cs, hcs⟩ : ∃ cs, liveChars (ss 0).row = cs := ⟨_, rfl⟩
          rw [hcs] at hnd hrg hle hge
          have hTX := HTX.out
          rw [text_chars, hcs] at hTX
          have h3 : ∀ c ∈ cs, three c := fun c hc => by
            have := hrg c hc
            unfold three
            omega
          have hlt := letters_any cs we h3 (by omega)
          rw [hTX] at hlt
          have hmb := mk_bools
          obtain ⟨c0, c2, _, z0, _⟩ := cv_cells HYe.out
          have HL : Hid (cs.Nodup ∧ (∀ c ∈ cs, 19968 ≤ c ∧ c < 19968 + (count : Int)) ∧ Kept (fun _ => False) w we) := ⟨hnd, hrg, HYe.out.ok.2⟩
          clear hTX hcs h3 hnd hrg HY HYe HTX HK2 hcut hKe hHm hHm2
          go_wp2_with fail
          refine hlt.mono ?_
          rintro e7 w7 ⟨lv, rfl, hR7, hk7, _⟩
          obtain ⟨la, lcp, hlv, _, _, hl0, hl1⟩ := hR7.cells
          subst hlv
          have hmb7 := hmb w7
          have k2 := hk7.cell' c2 (fun h => h)
          have kz : bg < w7.heap.size := Nat.lt_of_lt_of_le z0 hk7.size
          clear hlt hmb c0 c2 z0 hR7
          go_wp2
          go_loopw [24] (fun iv wr => ∃ i : Nat, i ≤ cs.length ∧ iv = .int .i64 i ∧ Hid (wr.heap[w7.heap.size]? = some (.cells (cvBools (metOf cs i)) 4 (0, 0)) ∧ Kept (fun _ => False) w7 wr)) (fun iv _ => cs.length - (intOf iv).toNat)
          case atStart => exact ⟨0, Nat.zero_le _, rfl, by rw [metOf_zero]; exact heap_alloc_new w7 _, (Kept.refl _ w7).alloc _⟩
          case round =>
            clear hmb7
            obtain ⟨i, hil, rfl, R⟩ := hrel
            obtain ⟨hA, hK⟩ := R.out
            clear R
            have m2 := hK.cell' k2 (fun h => h)
            have mz : bg < wr.heap.size := Nat.lt_of_lt_of_le kz hK.size
            by_cases hlt : i < cs.length
            · have hlt2 : (i : Int) < (cs.length : Int) := by omega
              obtain ⟨c, hc⟩ : ∃ c, cs[i]? = some c := ⟨_, List.getElem?_eq_getElem hlt⟩
              obtain ⟨hc1, hc2⟩ := HL.out.2.1 c (List.mem_of_getElem? hc)
              obtain ⟨x, hx⟩ : ∃ x : Nat, c = 19968 + (x : Int) := ⟨(c - 19968).toNat, by omega⟩
              have hxc : x < count := by omega
              have hx60 : x < 60 := by omega
              obtain ⟨ad, had⟩ : ∃ ad, la = some ad := by
                cases la with
                | none => have := hl0 rfl; rw [this] at hlt; simp at hlt
                | some ad => exact ⟨ad, rfl⟩
              subst had
              obtain ⟨gl, rfl, hcell⟩ := hl1 ad rfl
              have e1 := hK.cell' (hcell i c hc) (fun h => h)
              have ez := World.block_lt_of_cell? wr _ e1
              obtain ⟨s1, s2⟩ := metOf_step cs i c x hc hx hx60 HL.out.1
              have cS : wr.cell? ⟨w7.heap.size, x, none⟩ = some (.bool false) := by rw [Lib.cell_of_heap hA, cvBools_at, s1]; rfl
              have zS := lt_of_heap hA
              have fS : ∀ j, wr.frozen? ⟨w7.heap.size, j, none⟩ = false := Lib.frozen_of_heap hA
              have R2 : Hid ((wr.setCell ⟨w7.heap.size, x, none⟩ (.bool true)).heap[w7.heap.size]? = some (.cells (cvBools (metOf cs (i + 1))) 4 (0, 0)) ∧ Kept (fun _ => False) w7 (wr.setCell ⟨w7.heap.size, x, none⟩ (.bool true))) := by
                refine ⟨?_, hK.setCell (p := ⟨w7.heap.size, x, none⟩) (fun h => absurd h (Nat.lt_irrefl _)) _⟩
                rw [heap_set_same hA, s2]
              rw [hx] at e1
              have w1' : IntKind.i64.wrap ((19968 : Int) + (x : Int)) = (19968 : Int) + (x : Int) := by rw [IntKind.wrap_i64]; omega
              have w2' : (19968 : Int) + (x : Int) - 19968 = (x : Int) := by omega
              have w3' : IntKind.i64.wrap (x : Int) = (x : Int) := by rw [IntKind.wrap_i64]; omega
              have g1 : ¬ (x : Int) < 0 := by omega
              have g2 : ¬ (count : Int) ≤ (x : Int) := by omega
              have g3 : decide ((count : Int) ≤ (x : Int)) = false := by rw [decide_eq_false_iff_not]; exact g2
              have g4 : ¬ count ≤ x := by omega
              have g5 : (x : Int) < 60 := by omega
              clear hA hK s1 s2 hcell hc hx hc1 hc2
              go_wp2
              go_roundw
              case rel => exact ⟨i + 1, by omega, by go_num, R2⟩
              case measure => simp [intOf]; omega
            · have hlt2 : ¬ (i : Int) < (cs.length : Int) := by omega
              have hlt3 : decide ((i : Int) < (cs.length : Int)) = false := by rw [decide_eq_false_iff_not]; exact hlt2
              have HKE : Hid (Kept (fun _ => False) w wr) := (HL.out.2.2.trans' hk7).trans' hK
              have hdl : dels ops ≤ 60 := by
                unfold dels
                exact Nat.le_trans (List.length_filter_le _ _) hol
              have v1 : (cs.length : Int) ≤ (count : Int) := by omega
              have v2 : (count : Int) - (dels ops : Int) ≤ (cs.length : Int) := by omega
              have v3 : IntKind.i64.wrap ((count : Int) - (dels ops : Int)) = (count : Int) - (dels ops : Int) := by rw [IntKind.wrap_i64]; omega
              have v4 : decide ((cs.length : Int) ≤ (count : Int)) = true := by rw [decide_eq_true_iff]; exact v1
              have v5 : decide ((count : Int) - (dels ops : Int) ≤ (cs.length : Int)) = true := by rw [decide_eq_true_iff]; exact v2
              clear hA hK hl1 hl0
              go_wp2
              all_goals
                go_ret
                exact ⟨rfl, HKE⟩

end Go.Proofs.Ytgfafbanahiigaa
