import Derived.Test.YtgfafbanahiigaaV22
import Derived.Test.YtgfafbanahiigaaV21
import Derived.Lib.QuietBelow
import Derived.BigQuiet
set_option linter.unusedVariables false
set_option linter.unusedSimpArgs false
namespace Go.Proofs.Ytgfafbanahiigaa
open Go.RowKit Go.Chorus Go.Sort

theorem PlacedSt.quiet {w wr w' : World} {bp : Nat} {F : Nat → Prop} {k : Nat} {l : Value} {lr : List Int} {es : List El} (h : PlacedSt w wr bp F k l lr es) (hk : Kept (fun _ => False) wr w') : PlacedSt w w' bp F k l lr es :=
  ⟨h.peer.quiet hk, h.inv, h.chars, h.len, h.runes.kept hk (fun _ _ h => h), h.ok, h.kept.trans' hk, h.own, h.ownL, h.apart⟩

/-- The text, and the list as a string: one. -/
theorem PlacedSt.text {w wr : World} {bp : Nat} {F : Nat → Prop} {k : Nat} {l : Value} {lr : List Int} {es : List El} (h : PlacedSt w wr bp F k l lr es) (hk : k ≤ 4294967296) :
    ∃ S : ByteArray, S = ⟨(bytesOf lr).toArray⟩ ∧ Hid (∀ w', Kept (fun _ => False) wr w' → (convert 28 9 l).run Try.prog w' = .ok (.string S) w') ∧
      Hid (∀ w', Kept (fun _ => False) wr w' → Calls Try.prog 17 #[.pointer (some ⟨bp, 0, none⟩)] w' fun e' w'' => e' = .returned (.string S) ∧ Kept (fun _ => False) w' w'') := by
  refine ⟨_, rfl, fun w' hw' => ?_, fun w' hw' => ?_⟩
  · exact (h.runes.kept hw' (fun _ _ h => h)).str (fun c hc => by have := h.ok c hc; left; omega)
  · obtain ⟨lg, hp, hl⟩ := h.peer
    have := text_pm (lone1 k es lg) bp F w' (hp.quiet hw') (Nat.le_trans h.len hk) (fun e he => (h.inv.el e he).2.2.2)
    rw [show (lone1 k es lg).row = es from rfl, textBytes_chars, h.chars] at this
    exact this

/-- Lists of characters grown out of one that is no block of the peer's. -/
theorem LPM.grown {w w' : World} {bp n : Nat} {es : List El} {F : Nat → Prop} {v : Value} (h : LPM w bp n es F) (k : Kept (fun j => v.ownBlock = some j) w w') (ha : ∀ j, v.ownBlock = some j → ¬ F j) : LPM w' bp n es F := h.keep k (fun j hj e => ha j e hj)

set_option maxHeartbeats 2000000 in
set_option maxRecDepth 100000 in
theorem placed_any (a : Option Addr) (n cap : Nat) (w : World) (hn : n ≤ 9223372036854775807) (hs : StepsAt w a n) :
    Calls Try.prog 3 #[.slice a n cap] w fun e' w' => e' = .returned (.bool true) ∧ Kept (fun _ => False) w w' := by
  go_enter Try.func3, Try.ntmps3
  go_wp2_with fail
  refine (begun_any w).mono ?_
  rintro e1 w1 ⟨rfl, hk1⟩
  go_wp2_with fail
  refine (new_pm 0 1 w1 (by decide) (by decide) (by decide)).mono ?_
  rintro e2 w2 ⟨bp, F0, rfl, hP, hb1, hk2⟩
  have hk02 := hk1.trans' hk2
  have st0 : PlacedSt w w2 bp F0 0 (.slice none 0 0) [] [] :=
    ⟨⟨_, hP, fun l hl o ho => by have := List.eq_of_mem_replicate hl; subst this; cases ho⟩, ⟨fun e he => absurd he (List.not_mem_nil), List.Pairwise.nil⟩, rfl, Nat.le_refl _, World.ownsRow_nil _ _ _ _, fun c hc => absurd hc (List.not_mem_nil), hk02, fun j hj => Nat.le_trans hk1.size (hb1 j hj), fun j hj => (by simp [Value.ownBlock] at hj), fun j hj => (by simp [Value.ownBlock] at hj)⟩
  clear hP hk1 hk2 hb1 hk02
  go_wp2
  go_loopw [6, 7] (fun l i wr => ∃ (k : Nat) (lr : List Int) (es : List El) (F : Nat → Prop), k ≤ n ∧ k ≤ 120 ∧ i = .int .i64 k ∧ PlacedSt w wr bp F k l lr es) (fun _ i _ => 120 - (intOf i).toNat)
  case atStart => exact ⟨0, [], [], _, Nat.zero_le _, Nat.zero_le _, rfl, st0⟩
  case round =>
    obtain ⟨k, lr, es, F, hkn, hk120, rfl, st⟩ := hrel
    by_cases hlt : k < n ∧ k < 120
    · obtain ⟨hlt1, hlt2⟩ := hlt
      have hd1 : decide ((k : Int) < (n : Int)) = true := by rw [decide_eq_true_iff]; omega
      have hd2 : decide ((k : Int) < 120) = true := by rw [decide_eq_true_iff]; omega
      obtain ⟨b, off, kd, pe, at_, wh, rfl, s0, s1, s2, s3, ⟨q1, q2⟩, _, ⟨q3, q4⟩, _⟩ := (hs.kept st.kept) k hlt1
      have hlt3 : (k : Int) < (n : Int) := by omega
      obtain ⟨al, cpl, rfl, hcp, hlc, hl0, hl1⟩ := st.runes.cells
      have hlr : lr.length ≤ k := by
        rw [← st.chars]; exact Nat.le_trans (by unfold chars live; rw [List.length_map]; exact List.length_filter_le _ _) st.len
      obtain ⟨a0, ha0, ha1⟩ : ∃ a0 : Nat, pickN at_ ((lr.length : Int) + 1) = a0 ∧ a0 ≤ lr.length := by
        have h1 := pickN_lo at_ ((lr.length : Int) + 1) (by omega)
        have h2 := pickN_hi at_ ((lr.length : Int) + 1) (by omega)
        exact ⟨(pickN at_ ((lr.length : Int) + 1)).toNat, by omega, by omega⟩
      have HA : Hid (pickN at_ ((lr.length : Int) + 1) = a0) := ha0
      clear ha0
      have hws : StepsAt w (some ⟨b, off, none⟩) n := hs
      go_wp2_with fail
      refine (kpick_any at_ _ wr (by omega) (by omega) q3 q4).mono ?_
      rintro e3 w3 ⟨rfl, hw3⟩
      obtain rfl : wr = w3 := hw3.symm
      rw [HA.out]
      obtain ⟨D, hD⟩ : ∃ D : Bool, D = decide (pickN kd 8 = 4 ∧ a0 < lr.length) := ⟨_, rfl⟩
      have HD : Hid (D = decide (pickN kd 8 = 4 ∧ a0 < lr.length)) := hD
      clear hD
      go_upto_region 11 with fail
      go_cut [62] (fun v wc => v = .bool D ∧ wc = wr)
      case first =>
        go_wp2_with fail
        refine (kpick_any kd 8 wr (by omega) (by omega) q1 q2).mono ?_
        rintro e4 w4 ⟨rfl, hw4⟩
        obtain rfl : wr = w4 := hw4.symm
        by_cases hq : pickN kd 8 = 4
        · rw [hq]
          go_wp2
          all_goals
            go_meet
            refine ⟨?_, rfl⟩
            congr 1
            rw [HD.out]
            simp [hq]
        · have hq2 : (pickN kd 8 == 4) = false := by simpa using hq
          have HQ : Hid (¬ pickN kd 8 = 4) := hq
          clear hq
          go_wp2
          all_goals
            go_meet
            refine ⟨?_, rfl⟩
            congr 1
            rw [HD.out]
            simp [HQ.out]
      case rest =>
      obtain ⟨rfl, hwc⟩ := hcut
      obtain rfl : wr = wc := hwc.symm
      go_upto_if 62 with fail
      go_cut [5, 9] (fun e nx wc => ∃ (lr' : List Int) (es' : List El) (F' : Nat → Prop), e = .int .i64 0 ∧ PlacedSt w wc bp F' (k + 1) nx lr' es')
      case first =>
        have hlen : (live es).length = lr.length := by rw [← st.chars]; simp [chars]
        cases D
        · obtain ⟨tc, tp, hb, htc, htp, hpo, hinv, hch, hlen2⟩ := insert_step es k 0 st.inv (by omega) (by omega) a0 (by omega) (19968 + (k : Int)) (by omega) (by omega)
          have hnt := not_there st.inv
          go_upto_region 16 with fail
          go_wp2_with fail
          refine (insert_lone k es bp F wr st.peer st.inv st.len (by omega) a0 (19968 + k) (19968 + (k : Int)) (by omega) (by omega) tc tp hb (by unfold Lib.validRune; simp; omega) (by omega)).mono ?_
          rintro e5 w5 ⟨rfl, F5, hP5, hk5, hn5⟩
          obtain ⟨S, hS⟩ : ∃ S : ByteArray, S = ⟨((lone1 k es []).makes true (tc, tp) (19968 + k)).packet.toArray⟩ := ⟨_, rfl⟩
          rw [← hS]
          have hR5 : RunesAt w5 (.slice al lr.length cpl) lr := st.runes.kept hk5 st.apart
          obtain ⟨v6, w6, hr6, hR6, hk6, hb6⟩ := hR5.head (runesAt_nil w5) a0 ha1 (by simp; omega)
          rw [List.nil_append] at hR6
          have hR5' := hR5.kept hk6 (fun b _ h => by simp [Value.ownBlock] at h)
          have hP6 := hP5.grown hk6 (fun b h => by simp [Value.ownBlock] at h)
          have ha6 : ∀ j, v6.ownBlock = some j → ¬ F5 j := fun j hj hf => by
            have h1 := hP5.lt j hf
            rcases hb6 j hj with h | h
            · simp [Value.ownBlock] at h
            · omega
          obtain ⟨v7, w7, hr7, hR7, hk7, hb7⟩ := hR6.one (19968 + (k : Int)) (by simp; omega)
          have hP7 := hP6.grown hk7 ha6
          have ha7 : ∀ j, v7.ownBlock = some j → ¬ F5 j := fun j hj hf => by
            have h1 := hP6.lt j hf
            rcases hb7 j hj with h | h
            · exact ha6 j h hf
            · omega
          have hR5'' := hR5'.kept hk7 (fun b hb h => by
            have h1 := (hR5.lt b hb).2
            rcases hb6 b h with h2 | h2
            · simp [Value.ownBlock] at h2
            · omega)
          have hfin : Hid (∀ (v8 : Value) (w8 : World), RunesAt w8 v8 (lr.take a0 ++ [19968 + (k : Int)] ++ lr.drop a0) → Kept (fun k => v7.ownBlock = some k) w7 w8 → (∀ k, v8.ownBlock = some k → v7.ownBlock = some k ∨ w7.heap.size ≤ k) →
              PlacedSt w w8 bp F5 (k + 1) v8 (lr.take a0 ++ (19968 + (k : Int)) :: lr.drop a0) (insertEl es (k + 1) 0 tc tp (19968 + (k : Int)))) := fun v8 w8 hR8 hk8 hb8 => by
            have hP8 := hP7.grown hk8 ha7
            have hkA : Kept (fun _ => False) w w5 := kept_new st.kept hk5 st.own
            have hkB : Kept (fun _ => False) w w6 := hkA.trans hk6 (fun i _ h => by simp [Value.ownBlock] at h)
            have hv6 : ∀ j, v6.ownBlock = some j → w.heap.size ≤ j := fun j hj => by
              rcases hb6 j hj with h | h
              · simp [Value.ownBlock] at h
              · exact Nat.le_trans hkA.size h
            have hkC : Kept (fun _ => False) w w7 := hkB.trans hk7 (fun i hi h => by have := hv6 i h; omega)
            have hv7 : ∀ j, v7.ownBlock = some j → w.heap.size ≤ j := fun j hj => by
              rcases hb7 j hj with h | h
              · exact hv6 j h
              · exact Nat.le_trans hkB.size h
            refine ⟨hP8, hinv, by rw [hch, st.chars], by rw [hlen2]; exact Nat.succ_le_succ st.len, by simpa using hR8, fun c hc => ?_, hkC.trans hk8 (fun i hi h => by have := hv7 i h; omega), own_new st.kept.size st.own hn5, fun j hj => ?_, fun j hj hf => ?_⟩
            · rw [List.mem_append, List.mem_cons] at hc
              rcases hc with hc | rfl | hc
              · exact st.ok c (List.mem_of_mem_take hc)
              · omega
              · exact st.ok c (List.mem_of_mem_drop hc)
            · rcases hb8 j hj with h | h
              · exact hv7 j h
              · exact Nat.le_trans hkC.size h
            · have h1 := hP7.lt j hf
              rcases hb8 j hj with h | h
              · exact ha7 j h hf
              · omega
          have hcp2 := hcp
          unfold maxLen at hcp
          cases al with
          | none =>
            obtain rfl := hl0 rfl
            obtain rfl : a0 = 0 := by simpa using ha1
            obtain rfl : cpl = 0 := by
              rcases st.runes.2 with ⟨hv, _⟩ | ⟨g, cap, cur, hv, _⟩
              · injection hv
              · cases hv
            obtain ⟨v8, w8, hr8, hR8, hk8, hb8⟩ := hR5''.head hR7 0 (Nat.zero_le _) (by simp)
            have hst : Hid _ := hfin.out v8 w8 (by simpa using hR8) hk8 hb8
            clear hS hP5 hP6 hP7 hR5 hR5' hR5'' hR6 hR7 hR8 hk5 hk6 hk7 hk8 hb6 hb7 hb8 hn5 hinv hch hlen2 hfin hb hnt hpo ha6 ha7
            go_upto_region 18 with (at_builtin; refine Lib.wpList_append_run _ rfl _ _ _ _ rfl _ _ rfl rfl _ _ (hr6 _) ?_)
            go_upto_region 19 with (at_builtin; refine Lib.wpList_append_run _ rfl _ _ _ _ rfl _ _ rfl rfl _ _ (hr7 _) ?_)
            go_wp2_with (at_builtin; refine Lib.wpList_append_run _ rfl _ _ _ _ rfl _ _ rfl rfl _ _ (hr8 _) ?_)
            go_meet
            exact ⟨_, _, _, rfl, hst.out⟩
          | some ad =>
            obtain ⟨g, rfl, _⟩ := hl1 ad rfl
            obtain ⟨v8, w8, hr8, hR8, hk8, hb8⟩ := hR5''.tail hR7 a0 ha1 (by simp; omega) (if cpl = a0 then 0 else cpl - a0) (if cpl = a0 then 0 else a0) (by split; right; omega; left; rfl)
            have hst : Hid _ := hfin.out v8 w8 hR8 hk8 hb8
            clear hS hP5 hP6 hP7 hR5 hR5' hR5'' hR6 hR7 hR8 hk5 hk6 hk7 hk8 hb6 hb7 hb8 hn5 hinv hch hlen2 hfin hb hnt hpo ha6 ha7
            by_cases hcc : cpl = a0
            · rw [if_pos hcc, if_pos hcc, show lr.length - a0 = 0 by omega] at hr8
              subst hcc
              go_upto_region 18 with (at_builtin; refine Lib.wpList_append_run _ rfl _ _ _ _ rfl _ _ rfl rfl _ _ (hr6 _) ?_)
              go_upto_region 19 with (at_builtin; refine Lib.wpList_append_run _ rfl _ _ _ _ rfl _ _ rfl rfl _ _ (hr7 _) ?_)
              go_wp2_with (at_builtin; refine Lib.wpList_append_run _ rfl _ _ _ _ rfl _ _ rfl rfl _ _ (hr8 _) ?_)
              go_meet
              exact ⟨_, _, _, rfl, hst.out⟩
            · rw [if_neg hcc, if_neg hcc] at hr8
              go_upto_region 18 with (at_builtin; refine Lib.wpList_append_run _ rfl _ _ _ _ rfl _ _ rfl rfl _ _ (hr6 _) ?_)
              go_upto_region 19 with (at_builtin; refine Lib.wpList_append_run _ rfl _ _ _ _ rfl _ _ rfl rfl _ _ (hr7 _) ?_)
              go_wp2_with (at_builtin; refine Lib.wpList_append_run _ rfl _ _ _ _ rfl _ _ rfl rfl _ _ (hr8 _) ?_)
              go_meet
              exact ⟨_, _, _, rfl, hst.out⟩
        · have hcond : pickN kd 8 = 4 ∧ a0 < lr.length := by have := HD.out; simpa using this.symm
          obtain ⟨_, ha2⟩ := hcond
          obtain ⟨e, he, he1, he2, hinv, hch, hlen2⟩ := delete_step es k 0 st.inv a0 (by omega)
          cases al with
          | none => exact absurd (hl0 rfl) (by intro h; rw [h] at ha2; simp at ha2)
          | some ad =>
            obtain ⟨g, rfl, _⟩ := hl1 ad rfl
            go_upto_region 12 with fail
            go_wp2_with fail
            refine (delete_lone k es bp F wr st.peer st.inv st.len (by omega) a0 e he).mono ?_
            rintro e5 w5 ⟨rfl, F5, hP5, hk5, hn5⟩
            have hR5 : RunesAt w5 (.slice (some ⟨g, 0, none⟩) lr.length cpl) lr := st.runes.kept hk5 st.apart
            obtain ⟨v6, w6, hr6, hR6, hk6, hb6⟩ := hR5.head (runesAt_nil w5) a0 ha1 (by simp; omega)
            rw [List.nil_append] at hR6
            have hR5' := hR5.kept hk6 (fun b _ h => by simp [Value.ownBlock] at h)
            have hP6 := hP5.grown hk6 (fun b h => by simp [Value.ownBlock] at h)
            have ha6 : ∀ j, v6.ownBlock = some j → ¬ F5 j := fun j hj hf => by
              have h1 := hP5.lt j hf
              rcases hb6 j hj with h | h
              · simp [Value.ownBlock] at h
              · omega
            obtain ⟨v7, w7, hr7, hR7, hk7, hb7⟩ := hR5'.tail hR6 (a0 + 1) (by omega) (by simp; omega) (if cpl = a0 + 1 then 0 else cpl - (a0 + 1)) (if cpl = a0 + 1 then 0 else a0 + 1) (by split; right; omega; left; rfl)
            have hP7 := hP6.grown hk7 ha6
            have hst : Hid (PlacedSt w w7 bp F5 (k + 1) v7 (lr.take a0 ++ lr.drop (a0 + 1)) (killEl es e.clock e.peer)) := by
              have hkA : Kept (fun _ => False) w w5 := kept_new st.kept hk5 st.own
              have hkB : Kept (fun _ => False) w w6 := hkA.trans hk6 (fun i _ h => by simp [Value.ownBlock] at h)
              have hv6 : ∀ j, v6.ownBlock = some j → w.heap.size ≤ j := fun j hj => by
                rcases hb6 j hj with h | h
                · simp [Value.ownBlock] at h
                · exact Nat.le_trans hkA.size h
              refine ⟨hP7, hinv, by rw [hch, st.chars], by rw [hlen2]; exact Nat.le_succ_of_le st.len, hR7, fun c hc => ?_, hkB.trans hk7 (fun i hi h => by have := hv6 i h; omega), own_new st.kept.size st.own hn5, fun j hj => ?_, fun j hj hf => ?_⟩
              · rw [List.mem_append] at hc
                rcases hc with hc | hc
                · exact st.ok c (List.mem_of_mem_take hc)
                · exact st.ok c (List.mem_of_mem_drop hc)
              · rcases hb7 j hj with h | h
                · exact hv6 j h
                · exact Nat.le_trans hkB.size h
              · have h1 := hP6.lt j hf
                rcases hb7 j hj with h | h
                · exact ha6 j h hf
                · omega
            obtain ⟨S, hS⟩ : ∃ S : ByteArray, S = ⟨((lone1 k es []).makes false (e.clock, e.peer) 0).packet.toArray⟩ := ⟨_, rfl⟩
            rw [← hS]
            clear hS hP5 hP6 hP7 hR5 hR5' hR6 hR7 hk5 hk6 hk7 hb6 hb7 hn5 hinv hch hlen2 he ha6
            have hcc : cpl = a0 + 1 ∨ ¬ cpl = a0 + 1 := by omega
            have hw1 : (a0 : Int) + 1 ≤ lr.length := by omega
            unfold maxLen at hcp
            rcases hcc with hcc | hcc
            · rw [if_pos hcc, if_pos hcc] at hr7
              subst hcc
              go_upto_region 14 with (at_builtin; refine Lib.wpList_append_run _ rfl _ _ _ _ rfl _ _ rfl rfl _ _ (hr6 _) ?_)
              rw [show lr.length - (a0 + 1) = 0 by omega] at hr7
              go_wp2_with (at_builtin; refine Lib.wpList_append_run _ rfl _ _ _ _ rfl _ _ rfl rfl _ _ (hr7 _) ?_)
              go_meet
              exact ⟨_, _, _, rfl, hst.out⟩
            · rw [if_neg hcc, if_neg hcc] at hr7
              go_upto_region 14 with (at_builtin; refine Lib.wpList_append_run _ rfl _ _ _ _ rfl _ _ rfl rfl _ _ (hr6 _) ?_)
              go_wp2_with (at_builtin; refine Lib.wpList_append_run _ rfl _ _ _ _ rfl _ _ rfl rfl _ _ (hr7 _) ?_)
              go_meet
              exact ⟨_, _, _, rfl, hst.out⟩
      case rest =>
        obtain ⟨lr', es', F', rfl, st'⟩ := hcut
        have hlr' : lr'.length ≤ k + 1 := by
          rw [← st'.chars]; exact Nat.le_trans (by unfold chars live; rw [List.length_map]; exact List.length_filter_le _ _) st'.len
        clear st hs hws s0 s2 hl0 hl1 HD HA
        go_wp2_with fail
        obtain ⟨lg6, hp6, hl6⟩ := st'.peer
        refine (known_pm (lone1 (k + 1) es' lg6) 1 bp F' wc hp6 (lone1_fit (by omega) st'.inv hl6)).mono ?_
        rintro e6 w6 ⟨rfl, hc6, hk6⟩
        rw [show (lone1 (k + 1) es' lg6).known.length = 1 from rfl]
        rw [show (lone1 (k + 1) es' lg6).known = [k + 1] from rfl] at hc6
        have st6 := st'.quiet hk6
        have g0 : w6.cell? ⟨wc.heap.size, 0, none⟩ = some (.int .i64 ((k + 1 : Nat) : Int)) := by rw [Lib.cell_of_heap hc6]; rfl
        rw [show ((k + 1 : Nat) : Int) = (k : Int) + 1 by omega] at g0
        have hz6 := lt_of_heap hc6
        clear st' hc6 hk6
        obtain ⟨S, hS, hstr, htext⟩ := st6.text (by omega)
        go_upto_region 22 with fail
        go_cut [128] (fun v wc2 => v = .bool false ∧ Kept (fun _ => False) w6 wc2)
        case first =>
          have hcv : ∀ d os, (convert 28 9 u9).run Try.prog (grow (redrawn w6 d) os) = .ok (.string S) (grow (redrawn w6 d) os) := fun d os => hstr.out _ (Kept.of_below_all (below_regrown w6 d os))
          have htx : ∀ d os, Calls Try.prog 17 #[.pointer (some ⟨bp, 0, none⟩)] (grow (redrawn w6 d) os) fun e w'' => e = .returned (.string S) ∧ ∃ p : Regrown, w'' = grow (redrawn w6 p.d) p.os := fun d os => Calls.regrown_of ((htext.out _ (Kept.of_below_all (below_regrown w6 d os))).mono (fun e w' ⟨h1, h2⟩ => ⟨h1, h2.below _ (Nat.le_refl _) (fun _ h => h.elim)⟩))
          have g7 := cell_regrown g0
          clear hS hstr htext g0
          refine wp_region_quiet_below (by kernel_rfl) (by kernel_rfl) ?_
          repeat (go_big_quiet_step (exact htx _ _))
          refine wpQuiet_nil ?_
          intro _ hw'
          obtain ⟨⟨dq, osq⟩, hw''⟩ := hw'
          subst hw''
          go_wp2_with fail
          go_meet
          exact ⟨rfl, Kept.of_below_all (below_regrown w6 dq osq)⟩
        case rest =>
          obtain ⟨rfl, hk9⟩ := hcut
          have st9 := st6.quiet hk9
          go_wp2
          go_roundw
          case rel => exact ⟨k + 1, lr', es', F', by omega, by omega, by go_num, st9⟩
          case measure => simp [intOf]; omega
    · have hge : ¬ ((k : Int) < (n : Int) ∧ (k : Int) < 120) := by omega
      have hd : decide ((k : Int) < (n : Int)) = false ∨ decide ((k : Int) < 120) = false := by
        simp only [decide_eq_false_iff_not]; omega
      obtain ⟨al, cpl, rfl, hcp, hlc, hl0, hl1⟩ := st.runes.cells
      have hlr : lr.length ≤ k := by
        rw [← st.chars]; exact Nat.le_trans (by unfold chars live; rw [List.length_map]; exact List.length_filter_le _ _) st.len
      have hlen : (live es).length = lr.length := by rw [← st.chars]; simp [chars]
      have hlk := st.len
      have hb1 : behindOf es ((lr.length : Int) + 1) = none := by
        unfold behindOf
        rw [if_neg (by omega), if_neg (by omega), liveAt_ge es _ (by omega)]; rfl
      have hb2 : liveAt es (lr.length : Int) = none := liveAt_ge es _ (by omega)
      have hb3 : behindOf es 0 = some (0, 0) := rfl
      have HB : Hid (behindOf es ((lr.length : Int) + 1) = none ∧ liveAt es (lr.length : Int) = none ∧ behindOf es 0 = some (0, 0)) := ⟨hb1, hb2, hb3⟩
      clear hb1 hb2 hb3 hl0 hl1 hs
      have hrest : ∀ (X : Prop), X → X := fun _ h => h
      go_upto_region 24 with fail
      all_goals
        go_wp2_with fail
        obtain ⟨lg1, hp1, hl1'⟩ := st.peer
        refine (insert_place (lone1 k es lg1) bp F wr hp1 (by show es.length ≤ _; omega) _ 120 (by omega) HB.out.1).mono ?_
        rintro e3 w3 ⟨rfl, hk3⟩
        have st3 := st.quiet hk3
        go_wp2_with fail
        obtain ⟨lg3, hp3, hl3'⟩ := st3.peer
        refine (delete_place (lone1 k es lg3) bp F w3 hp3 (by show es.length ≤ _; omega) _ HB.out.2.1).mono ?_
        rintro e4 w4 ⟨rfl, hk4⟩
        have st4 := st3.quiet hk4
        go_wp2_with fail
        obtain ⟨lg4, hp4, hl4'⟩ := st4.peer
        refine (insert_rune (lone1 k es lg4) bp F w4 hp4 (by show es.length ≤ _; omega) 0 55296 (by omega) 0 0 HB.out.2.2 (by decide)).mono ?_
        rintro e5 w5 ⟨rfl, hk5⟩
        have st5 := st4.quiet hk5
        obtain ⟨S, hS, hstr, htext⟩ := st5.text (by omega)
        have hcv : ∀ d os, (convert 28 9 (.slice al lr.length cpl)).run Try.prog (grow (redrawn w5 d) os) = .ok (.string S) (grow (redrawn w5 d) os) := fun d os => hstr.out _ (Kept.of_below_all (below_regrown w5 d os))
        have htx : ∀ d os, Calls Try.prog 17 #[.pointer (some ⟨bp, 0, none⟩)] (grow (redrawn w5 d) os) fun e w'' => e = .returned (.string S) ∧ ∃ p : Regrown, w'' = grow (redrawn w5 p.d) p.os := fun d os => Calls.regrown_of ((htext.out _ (Kept.of_below_all (below_regrown w5 d os))).mono (fun e w' ⟨h1, h2⟩ => ⟨h1, h2.below _ (Nat.le_refl _) (fun _ h => h.elim)⟩))
        have hk5w := st5.kept
        clear hS hstr htext st5 st4 st3 st hk3 hk4 hk5 HB
        go_wp2_with fail
        refine wp_region_quiet_below (by kernel_rfl) (by kernel_rfl) ?_
        repeat (go_big_quiet_step (exact htx _ _))
        refine wpQuiet_nil ?_
        intro _ hw'
        obtain ⟨⟨dq, osq⟩, hw''⟩ := hw'
        subst hw''
        go_wp2
        go_ret
        exact ⟨rfl, hk5w.trans' (Kept.of_below_all (below_regrown w5 dq osq))⟩

end Go.Proofs.Ytgfafbanahiigaa
