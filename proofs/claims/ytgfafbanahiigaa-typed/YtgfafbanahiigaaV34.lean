import Derived.Test.YtgfafbanahiigaaV33
import Derived.Test.YtgfafbanahiigaaRU
import Derived.Deep.CutBlock
import Derived.Lib.QuietBelow
set_option linter.unusedVariables false
set_option linter.unusedSimpArgs false
namespace Go.Proofs.Ytgfafbanahiigaa
open Go.RowKit Go.Chorus Go.Sort

section
variable {P : Program} {ops : Array Oper} {w0 w1 : World}

/-- One that reads, by the walk at both worlds; the frame is laid out behind it. -/
theorem two_nextT {Q : Act → Prop} {a : Act} {o : Oper} {l : List Oper} {d : Nat} (v : Value) (hd : o.dst = some d)
    (h0 : ∀ K : Act → Prop, (∀ a', a'.tmps[d]? = some v → wpTwo P ops w0 w1 Q l a' → K a') → if Region.wanted o (yielded ops a.tmps) then o.still P a w0 K else K (a.put o.dst undef))
    (h1 : ∀ K : Act → Prop, (∀ a', a'.tmps[d]? = some v → K a') → if Region.wanted o (yielded ops a.tmps) then o.still P a w1 K else K (a.put o.dst undef)) : wpTwo P ops w0 w1 Q (o :: l) a := by
  have hinj : ∀ u, (a.put o.dst u).tmps[d]? = some v → u = v := fun u hu => by
    rw [hd] at hu
    by_cases hz : d < a.tmps.size
    · simpa [Act.put, hz] using hu
    · simp [Act.put, hz] at hu
  have key : ∀ (W : World) (R : Act → Prop), (if Region.wanted o (yielded ops a.tmps) then o.still P a W (fun a' => a'.tmps[d]? = some v ∧ R a') else ((a.put o.dst undef).tmps[d]? = some v ∧ R (a.put o.dst undef))) → YieldsAt P ops W o v a ∧ R (a.put o.dst v) := fun W R h2 => by
    unfold YieldsAt
    by_cases hw : Region.wanted o (yielded ops a.tmps) = true
    · rw [if_pos hw] at h2
      unfold Oper.still at h2
      generalize hr : (execOp a.eval o).run P W = r at h2
      cases r with
      | ok n w' =>
        cases n <;> simp only [Oper.stillUpon] at h2
        case value u => obtain ⟨rfl, h3, h4⟩ := h2; rw [hinj u h3] at h4 ⊢; exact ⟨.inl ⟨hw, .inl rfl⟩, h4⟩
        case skip => obtain ⟨rfl, h3, h4⟩ := h2; have e := hinj _ h3; rw [e] at h4; exact ⟨.inl ⟨hw, .inr (.inl ⟨rfl, e.symm⟩)⟩, h4⟩
        case enter f args => obtain ⟨rfl, u, hc, h3, h4⟩ := h2; rw [hinj u h3] at hc h4; exact ⟨.inl ⟨hw, .inr (.inr ⟨f, args, rfl, hc⟩)⟩, h4⟩
      | halt x w' => simp only [Oper.stillUpon] at h2
    · rw [if_neg hw] at h2
      have e := hinj _ h2.1
      rw [e] at h2
      exact ⟨.inr ⟨by simpa using hw, e.symm⟩, h2.2⟩
  obtain ⟨k1, k2⟩ := key w0 (wpTwo P ops w0 w1 Q l) (h0 _ (fun a' x y => ⟨x, y⟩))
  exact ⟨v, k1, (key w1 (fun _ => True) (h1 _ (fun a' x => ⟨x, trivial⟩))).1, k2⟩
end

set_option maxHeartbeats 20000000 in
set_option maxRecDepth 100000 in
theorem typed_any (n m lead : Int) (w : World) (hn : i64ok n) (hm : i64ok m) (hl : i64ok lead) :
    Calls Try.prog 9 #[.int .i64 n, .int .i64 m, .int .i64 lead] w fun e' w' => e' = .returned (.bool true) ∧ Kept (fun _ => False) w w' := by
  have pick_of : ∀ (c : Int) (k : Nat), 0 < k → k ≤ 9 → i64ok c → ∃ p : Nat, p < k ∧ ∀ W : World, Calls Try.prog 13 #[.int .i64 c, .int .i64 (k : Int)] W fun e' w' => e' = .returned (.int .i64 (p : Int)) ∧ w' = W := fun c k hk hk9 hc => by
    have pl := pickN_lo c (k : Int) (by omega)
    have ph := pickN_hi c (k : Int) (by omega)
    refine ⟨(pickN c (k : Int)).toNat, by omega, fun W => ?_⟩
    have := kpick_any c (k : Int) W (by omega) (by omega) hc.1 hc.2
    rw [show (((pickN c (k : Int)).toNat : Nat) : Int) = pickN c (k : Int) by omega]
    exact this
  obtain ⟨L, hL4, hpL⟩ := pick_of lead 4 (by decide) (by decide) hl
  obtain ⟨N0, hN9, hpN⟩ := pick_of n 9 (by decide) (by decide) hn
  obtain ⟨M0, hM9, hpM⟩ := pick_of m 9 (by decide) (by decide) hm
  clear pick_of hn hm hl
  go_enter Try.func9, Try.ntmps9
  go_wp2_with fail
  refine (fresh_any w).mono ?_
  rintro e1 w1 ⟨bg, bl, lc, bp, Fs, rfl, G1, hk1⟩
  have X0 : Hid _ := ty_start G1 hk1
  clear G1 hk1
  go_upto_block 0 with fail
  go_cut [8] (fun iv wd => Hid (Ty w wd bg bl lc bp (2 * L) (tyS (s0 L) (s1 L 0 0)) (ops0 L) L))
  case first =>
    go_wp2
    go_loopw [8] (fun i wr => ∃ k : Nat, k ≤ L ∧ i = .int .i64 k ∧ Hid (Ty w wr bg bl lc bp (2 * k) (tyS (s0 k) (s1 k 0 0)) (ops0 k) k)) (fun i _ => L - (intOf i).toNat)
    case atStart => exact ⟨0, Nat.zero_le _, rfl, X0⟩
    case round =>
      clear X0
      obtain ⟨k, hk, rfl, X⟩ := hrel
      go_wp2_with fail
      refine (hpL _).mono ?_
      rintro e2 w2 ⟨rfl, hw2⟩
      rw [hw2]
      clear hw2
      by_cases hlt : k < L
      · have hlt2 : (k : Int) < (L : Int) := by omega
        have hwr := ty_write0 X.out (by omega)
        go_wp2_with fail
        refine hwr.mono ?_
        rintro e3 w3 ⟨rfl, X3⟩
        clear hwr X
        obtain ⟨gp, cp, c0, c1, cl, cm, z0, z1, z2, hil, hol, hrc⟩ := ty_recv X3 (by omega) 1 (by decide) k (opA k) (by simp [ops0])
        have e1 : ((tyS (s0 (k + 1)) (s1 k 0 0)) 1).oneF (opA k) = (s1 (k + 1) 0 0, 1, 0) := s1_hears k 0
        have e2 : (ops0 (k + 1)).length = k + 1 := by simp [ops0]
        rw [e1, tyS_1] at hrc
        rw [e2] at c1 hil hol
        simp only [] at hrc
        obtain ⟨PK, hPK⟩ : ∃ PK : ByteArray, (⟨(opA k).packet.toArray⟩ : ByteArray) = PK := ⟨_, rfl⟩
        rw [hPK] at cm hrc
        have hki : (k : Int) < ((k + 1 : Nat) : Int) := by omega
        have hki2 : (k : Int) < (k : Int) + 1 := by omega
        clear hPK e1 e2 X3
        go_wp2_with fail
        go_cut [11] (fun ev wc => ev = .int .i64 0 ∧ Hid (Ty w wc bg bl lc bp (2 * k + 1 + 1) (tyS (s0 (k + 1)) (s1 (k + 1) 0 0)) (ops0 (k + 1)) (k + 1)))
        case first =>
          refine wp_region_four 6 14 1 ((w3.alloc (.cells #[.string PK] 9)).drew) (.slice (some ⟨w3.heap.size, 0, none⟩) 1 1) (by kernel_rfl) (by kernel_rfl) rfl ?_
          simp only [List.take_succ_cons, List.take_zero, List.drop_succ_cons, List.drop_zero]
          change wpTwo _ _ (World.drew _) _ _ _ _
          refine two_nextT (.pointer (some ⟨bg, 0, none⟩)) rfl (fun K hK => ?_) (fun K hK => ?_)
          case' refine_2 => go_simp; exact hK _ rfl
          go_simp
          refine hK _ rfl ?_
          clear hK K
          refine two_nextT (.pointer (some ⟨bg, 0, none⟩)) rfl (fun K hK => ?_) (fun K hK => ?_)
          case' refine_2 => go_simp; exact hK _ rfl
          go_simp
          refine hK _ rfl ?_
          clear hK K
          refine two_nextT (.pointer (some ⟨bg, 0, none⟩)) rfl (fun K hK => ?_) (fun K hK => ?_)
          case' refine_2 => go_simp; exact hK _ rfl
          go_simp
          refine hK _ rfl ?_
          clear hK K
          refine two_nextT (.slice (some ⟨bl, 0, none⟩) 3 lc) rfl (fun K hK => ?_) (fun K hK => ?_)
          case' refine_2 => go_simp; exact hK _ rfl
          go_simp
          refine hK _ rfl ?_
          clear hK K
          refine two_nextT (.pointer (some ⟨bl, 1, none⟩)) rfl (fun K hK => ?_) (fun K hK => ?_)
          case' refine_2 => go_simp; exact hK _ rfl
          go_simp
          refine hK _ rfl ?_
          clear hK K
          refine two_nextT (.pointer (some ⟨bp 1, 0, none⟩)) rfl (fun K hK => ?_) (fun K hK => ?_)
          case' refine_2 => go_simp; exact hK _ rfl
          go_simp
          refine hK _ rfl ?_
          clear hK K
          refine two_nil ?_
          change wpStill _ _ (World.drew _) _ _ _
          repeat still_step
          refine wpStill_nil ⟨⟨rfl, ?_⟩, ?_⟩
          · show Sem.run _ _ (World.drew _) = _
            go_simp
            try rfl
          · go_wp2_with fail
            refine hrc.mono ?_
            rintro e6 w6 ⟨rfl, hT⟩
            go_wp2_with fail
            change wpStill _ _ _ _ _ _
            repeat still_step
            refine wpStill_nil ?_
            go_wp2_with fail
            go_meet
            exact ⟨rfl, hT⟩
        case rest =>
          obtain ⟨rfl, X4⟩ := hcut
          clear hrc c0 c1 cl cm z0 z1 z2
          go_wp2
          go_roundw
          case rel => exact ⟨k + 1, by omega, by go_num, by rw [show 2 * (k + 1) = 2 * k + 1 + 1 by omega]; exact X4⟩
          case measure => simp [intOf]; omega
      · have hlt2 : ¬ (k : Int) < (L : Int) := by omega
        have hlt3 : decide ((k : Int) < (L : Int)) = false := by rw [decide_eq_false_iff_not]; exact hlt2
        obtain rfl : k = L := by omega
        go_wp2_with fail
        all_goals
          go_meet
          exact X
  case rest =>
    clear X0 hpL
    obtain ⟨wa, hwa⟩ : ∃ x, x = wc := ⟨_, rfl⟩
    subst hwa
    obtain ⟨c0, c2, cl, z0, z1, _⟩ := ty_cells hcut.out
    have cl0 := cl 0 (by decide)
    have htx := ty_text hcut.out (by omega) 0 (by decide)
    have e0 : (tyS (s0 L) (s1 L 0 0)) 0 = s0 L := rfl
    rw [e0, text_chars, s0_live] at htx
    clear e0 cl
    go_wp2_with fail
    refine htx.mono ?_
    rintro e4 w4 ⟨rfl, hk4⟩
    have hlt3 : ∀ c ∈ tchars 19968 L, three c := fun c hc => by
      obtain ⟨i, hi, rfl⟩ := List.mem_map.1 hc
      have := List.mem_range.1 hi
      unfold three
      omega
    have hle := letters_any (tchars 19968 L) w4 hlt3 (by rw [tchars_length]; omega)
    go_wp2_with fail
    refine hle.mono ?_
    rintro e5 w5 ⟨v5, rfl, hR5, hk5, hb5⟩
    obtain ⟨a5, cp5, rfl, _, _⟩ := own_slice hR5
    have X1 : Hid _ := (hcut.out.quiet hk4).quiet hk5
    rw [tchars_length] at hR5
    rw [tchars_length]
    clear htx hle hR5 hb5 hlt3 c0 c2 cl0 z0 z1 hcut hk4 hk5
    go_upto_block 2 with fail
    go_cut [14] (fun iv wd => Hid (Ty w wd bg bl lc bp (2 * L + (N0 + 1)) (tyS (s0 (L + (N0 + 1))) (s1 L 0 0)) (ops0 (L + (N0 + 1))) (L + (N0 + 1))))
    case first =>
      go_wp2
      go_loopw [14] (fun i wr => ∃ k : Nat, k ≤ N0 + 1 ∧ i = .int .i64 k ∧ Hid (Ty w wr bg bl lc bp (2 * L + k) (tyS (s0 (L + k)) (s1 L 0 0)) (ops0 (L + k)) (L + k))) (fun i _ => N0 + 1 - (intOf i).toNat)
      case atStart => exact ⟨0, Nat.zero_le _, rfl, X1⟩
      case round =>
        clear X1
        obtain ⟨k, hk, rfl, X⟩ := hrel
        go_wp2_with fail
        refine (hpN _).mono ?_
        rintro e2 w2 ⟨rfl, hw2⟩
        rw [hw2]
        clear hw2
        by_cases hlt : k < N0 + 1
        · have hlt2 : (k : Int) < 1 + (N0 : Int) := by omega
          have hwr := ty_write0 X.out (by omega)
          rw [show ((L + k : Nat) : Int) = (L : Int) + (k : Int) by omega] at hwr
          go_wp2_with fail
          refine hwr.mono ?_
          rintro e3 w3 ⟨rfl, X3⟩
          have X4 : Hid _ := X3
          clear hwr X X3
          go_wp2
          go_roundw
          case rel => exact ⟨k + 1, by omega, by go_num, X4⟩
          case measure => simp [intOf]; omega
        · have hlt2 : ¬ (k : Int) < 1 + (N0 : Int) := by omega
          have hlt3 : decide ((k : Int) < 1 + (N0 : Int)) = false := by rw [decide_eq_false_iff_not]; exact hlt2
          obtain rfl : k = N0 + 1 := by omega
          go_wp2_with fail
          all_goals
            go_meet
            exact X
    case rest =>
      clear X1 hpN
      obtain ⟨wb, hwb⟩ : ∃ x, x = wc := ⟨_, rfl⟩
      subst hwb
      obtain ⟨N, hN⟩ : ∃ N, N0 + 1 = N := ⟨_, rfl⟩
      have hNp : 0 < N := by omega
      have hN10 : N ≤ 9 := by omega
      rw [hN] at hcut
      clear hN hN9
      obtain ⟨c0, c2, _, z0, _, _⟩ := ty_cells hcut.out
      have X2 : Hid (Ty w wb bg bl lc bp (2 * L + N + 0) (tyS (s0 (L + N)) (s1 L N 0)) (opsT L N 0) (L + N + 0)) := by
        have := hcut.out
        have e : opsT L N 0 = ops0 (L + N) := by simp [opsT, ops1]
        rw [e]
        exact this
      clear hcut
      rw [show ((L + N : Nat) : Int) = (L : Int) + (N : Int) by omega] at c2
      go_upto_block 4 with fail
      go_cut [17] (fun iv wd => Hid (Ty w wd bg bl lc bp (2 * L + N + (M0 + 1)) (tyS (s0 (L + N)) (s1 L N (M0 + 1))) (opsT L N (M0 + 1)) (L + N + (M0 + 1))))
      case first =>
        go_wp2
        go_loopw [17] (fun i wr => ∃ k : Nat, k ≤ M0 + 1 ∧ i = .int .i64 k ∧ Hid (Ty w wr bg bl lc bp (2 * L + N + k) (tyS (s0 (L + N)) (s1 L N k)) (opsT L N k) (L + N + k))) (fun i _ => M0 + 1 - (intOf i).toNat)
        case atStart => exact ⟨0, Nat.zero_le _, rfl, X2⟩
        case round =>
          clear X2
          obtain ⟨k, hk, rfl, X⟩ := hrel
          go_wp2_with fail
          refine (hpM _).mono ?_
          rintro e2 w2 ⟨rfl, hw2⟩
          rw [hw2]
          clear hw2
          by_cases hlt : k < M0 + 1
          · have hlt2 : (k : Int) < 1 + (M0 : Int) := by omega
            have hwr := ty_write1 X.out (by omega)
            rw [show ((L + k : Nat) : Int) = (L : Int) + (k : Int) by omega] at hwr
            go_wp2_with fail
            refine hwr.mono ?_
            rintro e3 w3 ⟨rfl, X3⟩
            have X4 : Hid _ := X3
            clear hwr X X3
            go_wp2
            go_roundw
            case rel => exact ⟨k + 1, by omega, by go_num, X4⟩
            case measure => simp [intOf]; omega
          · have hlt2 : ¬ (k : Int) < 1 + (M0 : Int) := by omega
            have hlt3 : decide ((k : Int) < 1 + (M0 : Int)) = false := by rw [decide_eq_false_iff_not]; exact hlt2
            obtain rfl : k = M0 + 1 := by omega
            go_wp2_with fail
            all_goals
              go_meet
              exact X
      case rest =>
        clear X2 hpM c0 c2 z0
        obtain ⟨wd, hwd⟩ : ∃ x, x = wc := ⟨_, rfl⟩
        subst hwd
        obtain ⟨M, hM⟩ : ∃ M, M0 + 1 = M := ⟨_, rfl⟩
        have hMp : 0 < M := by omega
        have hM10 : M ≤ 9 := by omega
        rw [hM] at hcut
        clear hM hM9
        have X3 : Hid (∃ b, Ty w wd bg bl lc bp (2 * L + N + M + 2 * 0) (tyS (t0 L N (0 - (L + N))) b) (opsT L N M) (L + N + M)) := by
          refine ⟨s1 L N M, ?_⟩
          rw [Nat.zero_sub, t0_zero]
          exact hcut.out
        clear hcut
        obtain ⟨A, hA⟩ : ∃ A, L + N + M = A := ⟨_, rfl⟩
        have hA21 : A ≤ 21 := by omega
        go_upto_block 6 with fail
        go_cut [19] (fun iv wd => Hid (∃ b, Ty w wd bg bl lc bp (2 * L + N + M + 2 * A) (tyS (t0 L N M) b) (opsT L N M) A))
        case first =>
          go_wp2
          go_loopw [19] (fun i wr => ∃ k : Nat, k ≤ A ∧ i = .int .i64 k ∧ Hid (∃ b, Ty w wr bg bl lc bp (2 * L + N + M + 2 * k) (tyS (t0 L N (k - (L + N))) b) (opsT L N M) A)) (fun i _ => A - (intOf i).toNat)
          case atStart => exact ⟨0, Nat.zero_le _, rfl, by rw [← hA]; exact X3⟩
          case round =>
            clear X3
            obtain ⟨k, hk, rfl, X⟩ := hrel
            obtain ⟨b, X⟩ := X.out
            obtain ⟨c0, _, _, z0, _, a1, cp1, c1⟩ := ty_cells X
            rw [opsT_length, hA] at c1
            by_cases hlt : k < A
            · have hlt2 : (k : Int) < (A : Int) := by omega
              clear c0 z0 c1 a1 cp1
              obtain ⟨o, ho⟩ : ∃ o, (opsT L N M)[k]? = some o := ⟨_, List.getElem?_eq_getElem (by rw [opsT_length]; omega)⟩
              obtain ⟨d0, e1⟩ := ty_turn0 L N M k b hNp (by omega) o ho
              obtain ⟨gp, cp, c0, c1, cl, cm, z0, z1, z2, hil, hol, hrc⟩ := ty_recv X (by omega) 0 (by decide) k o ho
              rw [e1, tyS_0] at hrc
              rw [opsT_length, hA] at c1 hil hol
              simp only [] at hrc
              obtain ⟨PK, hPK⟩ : ∃ PK : ByteArray, (⟨o.packet.toArray⟩ : ByteArray) = PK := ⟨_, rfl⟩
              rw [hPK] at cm hrc
              clear hPK e1 X
              obtain ⟨wo, hwo⟩ : ∃ x, x = wr := ⟨_, rfl⟩
              subst hwo
              go_wp2_with fail
              go_cut [21] (fun ev wc => ev = .int .i64 0 ∧ Hid (Ty w wc bg bl lc bp (2 * L + N + M + 2 * k + 1) (tyS (t0 L N (k + 1 - (L + N))) b) (opsT L N M) A))
              case first =>
                refine wp_region_four 6 14 1 ((wo.alloc (.cells #[.string PK] 9)).drew) (.slice (some ⟨wo.heap.size, 0, none⟩) 1 1) (by kernel_rfl) (by kernel_rfl) rfl ?_
                simp only [List.take_succ_cons, List.take_zero, List.drop_succ_cons, List.drop_zero]
                change wpTwo _ _ (World.drew _) _ _ _ _
                refine two_nextT (.pointer (some ⟨bg, 0, none⟩)) rfl (fun K hK => ?_) (fun K hK => ?_)
                case' refine_2 => go_simp; exact hK _ rfl
                go_simp
                refine hK _ rfl ?_
                clear hK K
                refine two_nextT (.pointer (some ⟨bg, 0, none⟩)) rfl (fun K hK => ?_) (fun K hK => ?_)
                case' refine_2 => go_simp; exact hK _ rfl
                go_simp
                refine hK _ rfl ?_
                clear hK K
                refine two_nextT (.pointer (some ⟨bg, 0, none⟩)) rfl (fun K hK => ?_) (fun K hK => ?_)
                case' refine_2 => go_simp; exact hK _ rfl
                go_simp
                refine hK _ rfl ?_
                clear hK K
                refine two_nextT (.slice (some ⟨bl, 0, none⟩) 3 lc) rfl (fun K hK => ?_) (fun K hK => ?_)
                case' refine_2 => go_simp; exact hK _ rfl
                go_simp
                refine hK _ rfl ?_
                clear hK K
                refine two_nextT (.pointer (some ⟨bl, 0, none⟩)) rfl (fun K hK => ?_) (fun K hK => ?_)
                case' refine_2 => go_simp; exact hK _ rfl
                go_simp
                refine hK _ rfl ?_
                clear hK K
                refine two_nextT (.pointer (some ⟨bp 0, 0, none⟩)) rfl (fun K hK => ?_) (fun K hK => ?_)
                case' refine_2 => go_simp; exact hK _ rfl
                go_simp
                refine hK _ rfl ?_
                clear hK K
                refine two_nil ?_
                change wpStill _ _ (World.drew _) _ _ _
                repeat still_step
                refine wpStill_nil ⟨⟨rfl, ?_⟩, ?_⟩
                · show Sem.run _ _ (World.drew _) = _
                  go_simp
                  try rfl
                · go_wp2_with fail
                  refine hrc.mono ?_
                  rintro e6 w6 ⟨rfl, hT⟩
                  go_wp2_with fail
                  change wpStill _ _ _ _ _ _
                  repeat still_step
                  refine wpStill_nil ?_
                  go_wp2_with fail
                  go_meet
                  exact ⟨rfl, hT⟩
              case rest =>
                obtain ⟨rfl, X4⟩ := hcut
                clear hrc c0 c1 cl cm z0 z1 z2 hil hol
                obtain ⟨wq, hwq⟩ : ∃ x, x = wc := ⟨_, rfl⟩
                subst hwq
                obtain ⟨o2, ho2⟩ : ∃ o2, (opsT L N M)[A - 1 - k]? = some o2 := ⟨_, List.getElem?_eq_getElem (by rw [opsT_length]; omega)⟩
                obtain ⟨gp, cp, c0, c1, cl, cm, z0, z1, z2, hil, hol, hrc⟩ := ty_recv X4.out (by omega) 1 (by decide) (A - 1 - k) o2 ho2
                have hwh := ty_which X4.out 1 (by decide) o2 (List.mem_of_getElem? ho2)
                have eb : (tyS (t0 L N (k + 1 - (L + N))) b) 1 = b := rfl
                rw [eb, tyS_1] at hrc
                rw [eb] at hwh
                obtain ⟨r, hr⟩ : ∃ r, b.oneF o2 = r := ⟨_, rfl⟩
                rw [hr] at hrc hwh
                obtain ⟨rs, rn, re⟩ := r
                simp only [] at hrc hwh
                rw [opsT_length, hA] at c1 hil hol
                obtain ⟨q, hq⟩ : ∃ q, A - 1 - k = q := ⟨_, rfl⟩
                have hqi : (A : Int) - 1 - (k : Int) = (q : Int) := by omega
                have hqA : (q : Int) < (A : Int) := by omega
                have hw1 : IntKind.i64.wrap ((A : Int) - 1) = (A : Int) - 1 := by rw [IntKind.wrap_i64]; omega
                have hw2 : IntKind.i64.wrap ((A : Int) - 1 - (k : Int)) = (q : Int) := by rw [hqi, IntKind.wrap_i64]; omega
                have hw3 : IntKind.i64.wrap (q : Int) = (q : Int) := by rw [IntKind.wrap_i64]; omega
                rw [hq] at cm hil
                obtain ⟨PK2, hPK⟩ : ∃ PK : ByteArray, (⟨o2.packet.toArray⟩ : ByteArray) = PK := ⟨_, rfl⟩
                rw [hPK] at cm hrc
                clear hPK eb hr ho ho2 X4 hq
                go_wp2_with fail
                go_cut [23] (fun ev wc => ev = .int .i64 re ∧ Hid (Ty w wc bg bl lc bp (2 * L + N + M + 2 * k + 1 + 1) (tyS (t0 L N (k + 1 - (L + N))) rs) (opsT L N M) A))
                case first =>
                  refine wp_region_four 6 21 1 ((wq.alloc (.cells #[.string PK2] 9)).drew) (.slice (some ⟨wq.heap.size, 0, none⟩) 1 1) (by kernel_rfl) (by kernel_rfl) rfl ?_
                  simp only [List.take_succ_cons, List.take_zero, List.drop_succ_cons, List.drop_zero]
                  change wpTwo _ _ (World.drew _) _ _ _ _
                  refine two_nextT (.pointer (some ⟨bg, 0, none⟩)) rfl (fun K hK => ?_) (fun K hK => ?_)
                  case' refine_2 => go_simp; exact hK _ rfl
                  go_simp
                  refine hK _ rfl ?_
                  clear hK K
                  refine two_nextT (.pointer (some ⟨bg, 0, none⟩)) rfl (fun K hK => ?_) (fun K hK => ?_)
                  case' refine_2 => go_simp; exact hK _ rfl
                  go_simp
                  refine hK _ rfl ?_
                  clear hK K
                  refine two_nextT (.pointer (some ⟨bg, 0, none⟩)) rfl (fun K hK => ?_) (fun K hK => ?_)
                  case' refine_2 => go_simp; exact hK _ rfl
                  go_simp
                  refine hK _ rfl ?_
                  clear hK K
                  refine two_nextT (.slice (some ⟨bl, 0, none⟩) 3 lc) rfl (fun K hK => ?_) (fun K hK => ?_)
                  case' refine_2 => go_simp; exact hK _ rfl
                  go_simp
                  refine hK _ rfl ?_
                  clear hK K
                  refine two_nextT (.pointer (some ⟨bl, 1, none⟩)) rfl (fun K hK => ?_) (fun K hK => ?_)
                  case' refine_2 => go_simp; exact hK _ rfl
                  go_simp
                  refine hK _ rfl ?_
                  clear hK K
                  refine two_nextT (.pointer (some ⟨bp 1, 0, none⟩)) rfl (fun K hK => ?_) (fun K hK => ?_)
                  case' refine_2 => go_simp; exact hK _ rfl
                  go_simp
                  refine hK _ rfl ?_
                  clear hK K
                  refine two_nil ?_
                  change wpStill _ _ (World.drew _) _ _ _
                  repeat still_step
                  refine wpStill_nil ⟨⟨rfl, ?_⟩, ?_⟩
                  · show Sem.run _ _ (World.drew _) = _
                    go_simp
                    try rfl
                  · go_wp2_with fail
                    refine hrc.mono ?_
                    rintro e6 w6 ⟨rfl, hT⟩
                    go_wp2_with fail
                    change wpStill _ _ _ _ _ _
                    repeat still_step
                    refine wpStill_nil ?_
                    go_wp2_with fail
                    go_meet
                    exact ⟨rfl, hT⟩
                case rest =>
                  obtain ⟨rfl, X5⟩ := hcut
                  clear hrc c0 c1 cl cm z0 z1 z2 hil hol
                  have X6 : Hid (∃ b, Ty w wc bg bl lc bp (2 * L + N + M + 2 * (k + 1)) (tyS (t0 L N (k + 1 - (L + N))) b) (opsT L N M) A) := ⟨rs, by rw [show 2 * L + N + M + 2 * (k + 1) = 2 * L + N + M + 2 * k + 1 + 1 by omega]; exact X5.out⟩
                  clear X5
                  rcases hwh with h0 | h0
                  · subst h0
                    go_wp2
                    go_roundw
                    case rel => exact ⟨k + 1, by omega, by go_num, X6⟩
                    case measure => simp [intOf]; omega
                  · subst h0
                    go_wp2
                    go_roundw
                    case rel => exact ⟨k + 1, by omega, by go_num, X6⟩
                    case measure => simp [intOf]; omega
            · have hlt2 : ¬ (k : Int) < (A : Int) := by omega
              have hlt3 : decide ((k : Int) < (A : Int)) = false := by rw [decide_eq_false_iff_not]; exact hlt2
              obtain rfl : k = A := by omega
              have X6 : Hid (∃ b, Ty w wr bg bl lc bp (2 * L + N + M + 2 * k) (tyS (t0 L N M) b) (opsT L N M) k) := ⟨b, by rw [show k - (L + N) = M by omega] at X; exact X⟩
              clear X
              go_wp2_with fail
              all_goals
                go_meet
                exact X6
        case rest =>
          clear X3
          obtain ⟨we, hwe⟩ : ∃ x, x = wc := ⟨_, rfl⟩
          subst hwe
          obtain ⟨b0, X0⟩ := hcut.out
          have X3 : Hid (∃ b, Ty w we bg bl lc bp (2 * L + N + M + 2 * A + 0) (tyS (t0 L N M) b) (opsT L N M) A ∧ ∀ j q, j < 0 → (opsT L N M)[j]? = some q → q.num ≤ b.k q.peer) := ⟨b0, X0, fun j q hj => absurd hj (Nat.not_lt_zero _)⟩
          clear hcut X0
          go_upto_block 8 with fail
          go_cut [24] (fun iv wd => Hid (∃ b, Ty w wd bg bl lc bp (2 * L + N + M + 2 * A + A) (tyS (t0 L N M) b) (opsT L N M) A ∧ ∀ j q, j < A → (opsT L N M)[j]? = some q → q.num ≤ b.k q.peer))
          case first =>
            go_wp2
            go_loopw [24] (fun i wr => ∃ k : Nat, k ≤ A ∧ i = .int .i64 k ∧ Hid (∃ b, Ty w wr bg bl lc bp (2 * L + N + M + 2 * A + k) (tyS (t0 L N M) b) (opsT L N M) A ∧ ∀ j q, j < k → (opsT L N M)[j]? = some q → q.num ≤ b.k q.peer)) (fun i _ => A - (intOf i).toNat)
            case atStart => exact ⟨0, Nat.zero_le _, rfl, X3⟩
            case round =>
              clear X3
              obtain ⟨k, hk, rfl, X⟩ := hrel
              obtain ⟨b, X, hkn⟩ := X.out
              obtain ⟨c0, _, _, z0, _, a1, cp1, c1⟩ := ty_cells X
              rw [opsT_length, hA] at c1
              by_cases hlt : k < A
              · have hlt2 : (k : Int) < (A : Int) := by omega
                clear c0 z0 c1 a1 cp1
                obtain ⟨o, ho⟩ : ∃ o, (opsT L N M)[k]? = some o := ⟨_, List.getElem?_eq_getElem (by rw [opsT_length]; omega)⟩
                obtain ⟨e1, e2⟩ := ty_inturn X 1 (by decide) k o ho hkn
                obtain ⟨gp, cp, c0, c1, cl, cm, z0, z1, z2, hil, hol, hrc⟩ := ty_recv X (by omega) 1 (by decide) k o ho
                have eb : (tyS (t0 L N M) b) 1 = b := rfl
                rw [eb] at e1 e2
                rw [eb, tyS_1, e1] at hrc
                rw [opsT_length, hA] at c1 hil hol
                obtain ⟨rn, hrn⟩ : ∃ rn, (b.oneF o).2.1 = rn := ⟨_, rfl⟩
                obtain ⟨rs, hrs⟩ : ∃ rs, (b.oneF o).1 = rs := ⟨_, rfl⟩
                rw [hrn, hrs] at hrc
                rw [hrs] at e2
                obtain ⟨PK, hPK⟩ : ∃ PK : ByteArray, (⟨o.packet.toArray⟩ : ByteArray) = PK := ⟨_, rfl⟩
                rw [hPK] at cm hrc
                have HK : Hid (∀ j q, j < k + 1 → (opsT L N M)[j]? = some q → q.num ≤ rs.k q.peer) := e2
                clear hPK e1 e2 hkn X hrs hrn eb ho
                obtain ⟨wo, hwo⟩ : ∃ x, x = wr := ⟨_, rfl⟩
                subst hwo
                go_wp2_with fail
                go_cut [26] (fun ev wc => ev = .int .i64 0 ∧ Hid (Ty w wc bg bl lc bp (2 * L + N + M + 2 * A + k + 1) (tyS (t0 L N M) rs) (opsT L N M) A))
                case first =>
                  refine wp_region_four 6 14 1 ((wo.alloc (.cells #[.string PK] 9)).drew) (.slice (some ⟨wo.heap.size, 0, none⟩) 1 1) (by kernel_rfl) (by kernel_rfl) rfl ?_
                  simp only [List.take_succ_cons, List.take_zero, List.drop_succ_cons, List.drop_zero]
                  change wpTwo _ _ (World.drew _) _ _ _ _
                  refine two_nextT (.pointer (some ⟨bg, 0, none⟩)) rfl (fun K hK => ?_) (fun K hK => ?_)
                  case' refine_2 => go_simp; exact hK _ rfl
                  go_simp
                  refine hK _ rfl ?_
                  clear hK K
                  refine two_nextT (.pointer (some ⟨bg, 0, none⟩)) rfl (fun K hK => ?_) (fun K hK => ?_)
                  case' refine_2 => go_simp; exact hK _ rfl
                  go_simp
                  refine hK _ rfl ?_
                  clear hK K
                  refine two_nextT (.pointer (some ⟨bg, 0, none⟩)) rfl (fun K hK => ?_) (fun K hK => ?_)
                  case' refine_2 => go_simp; exact hK _ rfl
                  go_simp
                  refine hK _ rfl ?_
                  clear hK K
                  refine two_nextT (.slice (some ⟨bl, 0, none⟩) 3 lc) rfl (fun K hK => ?_) (fun K hK => ?_)
                  case' refine_2 => go_simp; exact hK _ rfl
                  go_simp
                  refine hK _ rfl ?_
                  clear hK K
                  refine two_nextT (.pointer (some ⟨bl, 1, none⟩)) rfl (fun K hK => ?_) (fun K hK => ?_)
                  case' refine_2 => go_simp; exact hK _ rfl
                  go_simp
                  refine hK _ rfl ?_
                  clear hK K
                  refine two_nextT (.pointer (some ⟨bp 1, 0, none⟩)) rfl (fun K hK => ?_) (fun K hK => ?_)
                  case' refine_2 => go_simp; exact hK _ rfl
                  go_simp
                  refine hK _ rfl ?_
                  clear hK K
                  refine two_nil ?_
                  change wpStill _ _ (World.drew _) _ _ _
                  repeat still_step
                  refine wpStill_nil ⟨⟨rfl, ?_⟩, ?_⟩
                  · show Sem.run _ _ (World.drew _) = _
                    go_simp
                    try rfl
                  · go_wp2_with fail
                    refine hrc.mono ?_
                    rintro e6 w6 ⟨rfl, hT⟩
                    go_wp2_with fail
                    change wpStill _ _ _ _ _ _
                    repeat still_step
                    refine wpStill_nil ?_
                    go_wp2_with fail
                    go_meet
                    exact ⟨rfl, hT⟩
                case rest =>
                  obtain ⟨rfl, X4⟩ := hcut
                  clear hrc c0 c1 cl cm z0 z1 z2 hil hol
                  go_wp2
                  go_roundw
                  case rel => exact ⟨k + 1, by omega, by go_num, rs, X4.out, HK.out⟩
                  case measure => simp [intOf]; omega
              · have hlt2 : ¬ (k : Int) < (A : Int) := by omega
                have hlt3 : decide ((k : Int) < (A : Int)) = false := by rw [decide_eq_false_iff_not]; exact hlt2
                obtain rfl : k = A := by omega
                have X6 : Hid (∃ b, Ty w wr bg bl lc bp (2 * L + N + M + 2 * k + k) (tyS (t0 L N M) b) (opsT L N M) k ∧ ∀ j q, j < k → (opsT L N M)[j]? = some q → q.num ≤ b.k q.peer) := ⟨b, X, hkn⟩
                clear X hkn
                go_wp2_with fail
                all_goals
                  go_meet
                  exact X6
          case rest =>
            clear X3
            obtain ⟨wf, hwf⟩ : ∃ x, x = wc := ⟨_, rfl⟩
            subst hwf
            obtain ⟨b, X, hkn⟩ := hcut.out
            have hrow := ty_same X (by rw [opsT_length, hA]; exact hkn)
            clear hcut hkn
            have HX : Hid (Ty w wf bg bl lc bp (2 * L + N + M + 2 * A + A) (tyS (t0 L N M) b) (opsT L N M) A ∧ b.row = (t0 L N M).row) := ⟨X, hrow⟩
            clear X hrow
            have R0 : Hid (R3 wf wf (fun _ => .slice none 0 0) (fun _ => [])) := ⟨fun j hj => runesAt_nil _, fun j k _ _ _ b hb => by simp [Value.ownBlock] at hb, fun j _ b hb => by simp [Value.ownBlock] at hb, Kept.refl _ _⟩
            go_upto_block 10 with fail
            go_cut [27, 28, 29, 30] (fun va vb vc iv wd => ∃ v : Nat → Value, va = v 0 ∧ vb = v 1 ∧ vc = v 2 ∧ Hid (R3 wf wd v (tl L N A)))
            case first =>
              go_wp2
              go_loopw [27, 28, 29, 30] (fun va vb vc i wr => ∃ (k : Nat) (v : Nat → Value), k ≤ A ∧ i = .int .i64 k ∧ va = v 0 ∧ vb = v 1 ∧ vc = v 2 ∧ Hid (R3 wf wr v (tl L N k))) (fun _ _ _ i _ => A - (intOf i).toNat)
              case atStart => exact ⟨0, fun _ => .slice none 0 0, Nat.zero_le _, rfl, rfl, rfl, rfl, by rw [tl_zero]; exact R0⟩
              case round =>
                clear R0
                obtain ⟨k, v, hk, rfl, rfl, rfl, rfl, R⟩ := hrel
                obtain ⟨c0, c2, _, z0, _, _⟩ := ty_cells (HX.out.1.quiet R.out.kept)
                by_cases hlt : k < A
                · have hlt2 : (k : Int) < (A : Int) := by omega
                  have hw1 : IntKind.i64.wrap ((19968 : Int) + (k : Int)) = (19968 : Int) + (k : Int) := by rw [IntKind.wrap_i64]; omega
                  have hw2 : IntKind.i32.wrap ((19968 : Int) + (k : Int)) = (19968 : Int) + (k : Int) := by rw [IntKind.wrap_i32]; omega
                  by_cases h1 : k < L
                  · have h1i : (k : Int) < (L : Int) := by omega
                    obtain ⟨v', w', hr, R'⟩ := R.out.next (by omega) 0 (Or.inl ⟨rfl, h1⟩)
                    have R2 : Hid _ := R'
                    clear R R'
                    go_wp2_with (at_builtin; refine Lib.wpList_append_run _ rfl _ _ _ _ rfl _ _ rfl rfl _ _ (hr _) ?_)
                    go_roundw
                    case rel => exact ⟨k + 1, upd v 0 v', by omega, by go_num, rfl, rfl, rfl, R2⟩
                    case measure => simp [intOf]; omega
                  · have h1i : ¬ (k : Int) < (L : Int) := by omega
                    have h1d : decide ((k : Int) < (L : Int)) = false := by rw [decide_eq_false_iff_not]; exact h1i
                    by_cases h2 : k < L + N
                    · have h2i : (k : Int) < (L : Int) + (N : Int) := by omega
                      obtain ⟨v', w', hr, R'⟩ := R.out.next (by omega) 1 (Or.inr (Or.inl ⟨rfl, by omega, h2⟩))
                      have R2 : Hid _ := R'
                      clear R R'
                      go_wp2_with (at_builtin; refine Lib.wpList_append_run _ rfl _ _ _ _ rfl _ _ rfl rfl _ _ (hr _) ?_)
                      go_roundw
                      case rel => exact ⟨k + 1, upd v 1 v', by omega, by go_num, rfl, rfl, rfl, R2⟩
                      case measure => simp [intOf]; omega
                    · have h2i : ¬ (k : Int) < (L : Int) + (N : Int) := by omega
                      have h2d : decide ((k : Int) < (L : Int) + (N : Int)) = false := by rw [decide_eq_false_iff_not]; exact h2i
                      obtain ⟨v', w', hr, R'⟩ := R.out.next (by omega) 2 (Or.inr (Or.inr ⟨rfl, by omega⟩))
                      have R2 : Hid _ := R'
                      clear R R'
                      go_wp2_with (at_builtin; refine Lib.wpList_append_run _ rfl _ _ _ _ rfl _ _ rfl rfl _ _ (hr _) ?_)
                      go_roundw
                      case rel => exact ⟨k + 1, upd v 2 v', by omega, by go_num, rfl, rfl, rfl, R2⟩
                      case measure => simp [intOf]; omega
                · have hlt2 : ¬ (k : Int) < (A : Int) := by omega
                  have hlt3 : decide ((k : Int) < (A : Int)) = false := by rw [decide_eq_false_iff_not]; exact hlt2
                  obtain rfl : k = A := by omega
                  go_wp2_with fail
                  all_goals
                    go_meet
                    exact ⟨v, rfl, rfl, rfl, R⟩
            case rest =>
              clear R0
              obtain ⟨v, rfl, rfl, rfl, R⟩ := hcut
              obtain ⟨wg, hwg⟩ : ∃ x, x = wc := ⟨_, rfl⟩
              subst hwg
              have Y := HX.out.1.quiet R.out.kept
              obtain ⟨c0, _, cl, z0, z1, _⟩ := ty_cells Y
              have cl0 := cl 0 (by decide)
              have cl1 := cl 1 (by decide)
              obtain ⟨ea, eb, ec⟩ := tl_end L N M
              rw [hA] at ea eb ec
              have hoA := tchars_ok 19968 L (by omega)
              have hoB := tchars_ok (19968 + L) N (by omega)
              have hoC := tchars_ok (19968 + L + N) M (by omega)
              have lA := enc_len 19968 L (by omega)
              have lB := enc_len (19968 + L) N (by omega)
              have lC := enc_len (19968 + L + N) M (by omega)
              have htx0 := ty_text Y (by omega) 0 (by decide)
              have e0 : (tyS (t0 L N M) b) 0 = t0 L N M := rfl
              have e1 : (tyS (t0 L N M) b) 1 = b := rfl
              rw [e0, t0_text] at htx0
              have htx1 : ∀ W, Kept (fun _ => False) wg W → Calls Try.prog 17 #[.pointer (some ⟨bp 1, 0, none⟩)] W fun e' w' => e' = .returned (.string ⟨((bytesOf (tchars 19968 L) ++ bytesOf (tchars (19968 + L + N) M)) ++ bytesOf (tchars (19968 + L) N)).toArray⟩) ∧ Kept (fun _ => False) W w' := fun W hW => by
                have := ty_text (Y.quiet hW) (by omega) 1 (by decide)
                rw [e1, HX.out.2, t0_text] at this
                exact this
              have htx0 : Calls Try.prog 17 #[.pointer (some ⟨bp 0, 0, none⟩)] wg fun e' w' => e' = .returned (.string ⟨((bytesOf (tchars 19968 L) ++ bytesOf (tchars (19968 + L + N) M)) ++ bytesOf (tchars (19968 + L) N)).toArray⟩) ∧ Kept (fun _ => False) wg w' := htx0
              have hcA : ∀ W, Kept (fun _ => False) wg W → (convert 28 9 (v 0)).run Try.prog W = .ok (.string ⟨(bytesOf (tchars 19968 L)).toArray⟩) W := fun W hW => by
                have h1 := (R.out.at_ 0 (by decide)).kept hW (fun _ _ h => h)
                rw [ea] at h1
                exact h1.str hoA
              have hcB : ∀ W, Kept (fun _ => False) wg W → (convert 28 9 (v 1)).run Try.prog W = .ok (.string ⟨(bytesOf (tchars (19968 + L) N)).toArray⟩) W := fun W hW => by
                have h1 := (R.out.at_ 1 (by decide)).kept hW (fun _ _ h => h)
                rw [eb] at h1
                exact h1.str hoB
              have hcC : ∀ W, Kept (fun _ => False) wg W → (convert 28 9 (v 2)).run Try.prog W = .ok (.string ⟨(bytesOf (tchars (19968 + L + N) M)).toArray⟩) W := fun W hW => by
                have h1 := (R.out.at_ 2 (by decide)).kept hW (fun _ _ h => h)
                rw [ec] at h1
                exact h1.str hoC
              have HKw : Hid (Kept (fun _ => False) w wg) := by
                obtain ⟨_, _, _, _, _, _, hh⟩ := Y
                exact hh
              obtain ⟨ba, hba⟩ : ∃ x, bytesOf (tchars 19968 L) = x := ⟨_, rfl⟩
              obtain ⟨bb, hbb⟩ : ∃ x, bytesOf (tchars (19968 + L) N) = x := ⟨_, rfl⟩
              obtain ⟨bc, hbc⟩ : ∃ x, bytesOf (tchars (19968 + L + N) M) = x := ⟨_, rfl⟩
              rw [hba, hbb, hbc] at htx0
              simp only [hba, hbb, hbc] at htx1 hcA hcB hcC
              rw [hba] at lA
              rw [hbb] at lB
              rw [hbc] at lC
              have add1 : ∀ W : World, (Op.stringOp .add ⟨ba.toArray⟩ ⟨bb.toArray⟩).run Try.prog W = .ok (.string ⟨(ba ++ bb).toArray⟩) W := fun W => str_add3 W ba bb (by omega)
              have add2 : ∀ W : World, (Op.stringOp .add ⟨(ba ++ bb).toArray⟩ ⟨bc.toArray⟩).run Try.prog W = .ok (.string ⟨(ba ++ bb ++ bc).toArray⟩) W := fun W => str_add3 W _ _ (by rw [List.length_append]; omega)
              have add3 : ∀ W : World, (Op.stringOp .add ⟨ba.toArray⟩ ⟨bc.toArray⟩).run Try.prog W = .ok (.string ⟨(ba ++ bc).toArray⟩) W := fun W => str_add3 W ba bc (by omega)
              have add4 : ∀ W : World, (Op.stringOp .add ⟨(ba ++ bc).toArray⟩ ⟨bb.toArray⟩).run Try.prog W = .ok (.string ⟨(ba ++ bc ++ bb).toArray⟩) W := fun W => str_add3 W _ _ (by rw [List.length_append]; omega)
              obtain ⟨SA, hSA⟩ : ∃ x : ByteArray, (⟨ba.toArray⟩ : ByteArray) = x := ⟨_, rfl⟩
              obtain ⟨SB, hSB⟩ : ∃ x : ByteArray, (⟨bb.toArray⟩ : ByteArray) = x := ⟨_, rfl⟩
              obtain ⟨SC, hSC⟩ : ∃ x : ByteArray, (⟨bc.toArray⟩ : ByteArray) = x := ⟨_, rfl⟩
              obtain ⟨SAB, hSAB⟩ : ∃ x : ByteArray, (⟨(ba ++ bb).toArray⟩ : ByteArray) = x := ⟨_, rfl⟩
              obtain ⟨SAC, hSAC⟩ : ∃ x : ByteArray, (⟨(ba ++ bc).toArray⟩ : ByteArray) = x := ⟨_, rfl⟩
              obtain ⟨S1, hS1⟩ : ∃ x : ByteArray, (⟨(ba ++ bb ++ bc).toArray⟩ : ByteArray) = x := ⟨_, rfl⟩
              obtain ⟨S2, hS2⟩ : ∃ x : ByteArray, (⟨(ba ++ bc ++ bb).toArray⟩ : ByteArray) = x := ⟨_, rfl⟩
              rw [hS2] at htx0
              simp only [hS2] at htx1
              simp only [hSA] at hcA
              simp only [hSB] at hcB
              simp only [hSC] at hcC
              simp only [hSA, hSB, hSAB] at add1
              simp only [hSAB, hSC, hS1] at add2
              simp only [hSA, hSC, hSAC] at add3
              simp only [hSAC, hSB, hS2] at add4
              generalize v 0 = u0 at *
              generalize v 1 = u1 at *
              generalize v 2 = u2 at *
              clear hba hbb hbc lA lB lC hSA hSB hSC hSAB hSAC hS1 hS2 hoA hoB hoC ea eb ec Y HX R e0 e1 cl
              go_wp2_with fail
              refine htx0.mono ?_
              rintro e6 w6 ⟨rfl, hk6⟩
              have d0 := hk6.cell' c0 (fun h => h)
              have d1 := hk6.cell' cl1 (fun h => h)
              have dz0 : bg < w6.heap.size := Nat.lt_of_lt_of_le z0 hk6.size
              have dz1 : bl < w6.heap.size := Nat.lt_of_lt_of_le z1 hk6.size
              have htx2 := htx1 w6 hk6
              clear htx0 htx1
              go_wp2_with fail
              refine htx2.mono ?_
              rintro e7 w7 ⟨rfl, hk7⟩
              have fA := hcA w7 (hk6.trans' hk7)
              have fB := hcB w7 (hk6.trans' hk7)
              have fC := hcC w7 (hk6.trans' hk7)
              have hKE : Hid (Kept (fun _ => False) w w7) := (HKw.out.trans' hk6).trans' hk7
              have a1 := add1 w7
              have a2 := add2 w7
              have a3 := add3 w7
              have a4 := add4 w7
              clear hcA hcB hcC add1 add2 add3 add4 htx2 HKw
              by_cases hS : S2 = S1
              · subst hS
                go_wp2
                all_goals
                  go_ret
                  exact ⟨rfl, hKE⟩
              · have hS' : decide (S2 = S1) = false := by rw [decide_eq_false_iff_not]; exact hS
                go_wp2
                all_goals
                  go_ret
                  exact ⟨rfl, hKE⟩

end Go.Proofs.Ytgfafbanahiigaa
