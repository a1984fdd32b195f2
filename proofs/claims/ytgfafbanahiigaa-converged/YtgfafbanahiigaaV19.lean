import Derived.Test.YtgfafbanahiigaaV19a
import Derived.Deep.QuietTactic
import Derived.BigQuiet
import Derived.Deep.RegionWith
import Derived.BigRegion
import Derived.Deep.DeepCutAuto
set_option linter.unusedVariables false
set_option linter.unusedSimpArgs false
namespace Go.Proofs.Ytgfafbanahiigaa
open Go.RowKit Go.Chorus

theorem info_made : (Try.prog.info? 51).map (fun i => (i.zero, i.size, i.bytes)) = some (some (.agg #[.string ⟨#[]⟩, .int .i64 0, .int .i64 0, .slice none 0 0]), 4, 56) := by kernel_rfl


set_option maxHeartbeats 2000000 in
set_option maxRecDepth 100000 in
theorem gwrite_any (B : Nat → Prop) (w : World) (bg bl lc : Nat) (bp : Nat → Nat) (ss : Nat → Pr) (Fs : Nat → Nat → Prop) (pv : Value) (mds : List Mk) (count t : Nat) (H : List Ope) (G : GSt B w bg bl lc bp ss Fs pv mds count) (O : GOk t H ss count) (hH : (mds.map Mk.o).reverse = H) (ht : t ≤ 300) (hB : ∀ b, w.heap.size ≤ b → B b)
    (k : Nat) (hk : k < 3) (kind peer at_ which : Int) (hki : i64ok kind) (hat : i64ok at_) :
    Calls Try.prog 24 #[.pointer (some ⟨bg, 0, none⟩), .int .i64 k, .agg #[.int .i64 kind, .int .i64 peer, .int .i64 at_, .int .i64 which]] w fun e' w' => e' = .returned (.bool true) ∧ Kept B w w' ∧
      ∃ o Fs' pv' kb kc count', o.peer = k ∧ o.seen = (ss k).known ∧ o.num = (ss k).k k + 1 ∧ GSt B w' bg bl lc bp (upd ss k ((ss k).deliverF o).1) Fs' pv' (mds ++ [⟨o, kb, kc⟩]) count' ∧ GOk (t + 1) (o :: H) (upd ss k ((ss k).deliverF o).1) count' := by
  obtain ⟨cur, hl1, hl2⟩ := G.list
  have hbw := lt_of_heap G.block
  have hlw := lt_of_heap hl1
  have c0 : w.cell? ⟨bg, 0, none⟩ = some (.slice (some ⟨bl, 0, none⟩) 3 lc) := by rw [Lib.cell_of_heap G.block]; rfl
  have c1 : w.cell? ⟨bg, 1, none⟩ = some pv := by rw [Lib.cell_of_heap G.block]; rfl
  have c2 : w.cell? ⟨bg, 2, none⟩ = some (.int .i64 count) := by rw [Lib.cell_of_heap G.block]; rfl
  have cl : w.cell? ⟨bl, k, none⟩ = some (.pointer (some ⟨bp k, 0, none⟩)) := by rw [Lib.cell_of_heap hl1]; exact hl2 k hk
  have hk3 : (k : Int) < 3 := by omega
  go_enter Try.func24, Try.ntmps24
  go_wp2_with fail
  refine (known_pm (ss k) 3 (bp k) (Fs k) _ ((G.peers k hk).quiet ((Kept.refl _ w).alloc _)) (O.fit k hk)).mono ?_
  rintro e1 w1 ⟨rfl, hkb, hk1⟩
  have hkW : Kept (fun _ => False) w w1 := ((Kept.refl (fun _ => False) w).alloc _).trans' hk1
  have hsb : w1.heap[w.heap.size]? = some (.cells #[.int .i64 kind, .int .i64 peer, .int .i64 at_, .int .i64 which] 31 (0, 0)) := hk1.heap (heap_alloc_new w _) (fun h => h)
  simp only [World.size_alloc] at hkb
  have hl3 : (ss k).known.length = 3 := (O.fit k hk).len
  have P1 := (G.peers k hk).quiet hkW
  have hsz : psize (ss k) ≤ 300 := Nat.le_trans (O.size k hk) ht
  have hrl : (ss k).row.length ≤ 300 := by unfold psize at hsz; omega
  go_wp2_with fail
  refine (text_pm (ss k) (bp k) (Fs k) w1 P1 (by omega) (O.fit k hk).row).mono ?_
  rintro e2 w2 ⟨rfl, hk2⟩
  rw [text_chars]
  have hlc := liveChars_len (ss k).row
  go_wp2_with fail
  refine (letters_any (liveChars (ss k).row) w2 (O.three (by omega) hk) (by omega)).mono ?_
  rintro e3 w3 ⟨v3, rfl, hR3, hk3', hb3⟩
  obtain ⟨a3, cp3, rfl, _, _⟩ := own_slice hR3
  have hkw3 : Kept (fun _ => False) w w3 := (hkW.trans' hk2).trans' hk3'
  have hk13 : Kept (fun _ => False) w1 w3 := hk2.trans' hk3'
  have hsb3 := hk13.heap hsb (fun h => h)
  have hkb3 := hk13.heap hkb (fun h => h)
  have s0 : w3.cell? ⟨w.heap.size, 0, none⟩ = some (.int .i64 kind) := by rw [Lib.cell_of_heap hsb3]; rfl
  have s2 : w3.cell? ⟨w.heap.size, 2, none⟩ = some (.int .i64 at_) := by rw [Lib.cell_of_heap hsb3]; rfl
  have sz := lt_of_heap hsb3
  have G3 := G.quiet hkw3
  have d0 := hkw3.cell' c0 (fun h => h)
  have d2 := hkw3.cell' c2 (fun h => h)
  have hbw3 : bg < w3.heap.size := Nat.lt_of_lt_of_le hbw hkw3.size
  obtain ⟨n, hn⟩ : ∃ n, (liveChars (ss k).row).length = n := ⟨_, rfl⟩
  rw [hn] at hlc ⊢
  have HN : Hid ((liveChars (ss k).row).length = n) := hn
  have HG3 : Hid (GSt B w3 bg bl lc bp ss Fs pv mds count) := G3
  have HKB : Hid (w3.heap[w.heap.size + 1]? = some (.cells (i64s (ss k).known) 3 (0, 0)) ∧ Kept (fun _ => False) w w3) := ⟨hkb3, hkw3⟩
  obtain ⟨hki1, hki2⟩ := hki
  obtain ⟨hat1, hat2⟩ := hat
  have hFlt : ∀ j, j < 3 → ∀ b, Fs j b → b < w.heap.size := fun j hj b hb => (G.peers j hj).lt b hb
  have hBw3 : ∀ b, w3.heap.size ≤ b → B b := fun b hb => hB b (Nat.le_trans hkw3.size hb)
  obtain ⟨x, hx⟩ : ∃ x, (ss k).k k = x := ⟨_, rfl⟩
  have hxg : (ss k).known[k]? = some x := by rw [← hx]; unfold Pr.k; rw [List.getD_eq_getElem?_getD, List.getElem?_eq_getElem (by omega)]; rfl
  have hxt : x ≤ 300 := by rw [← hx]; exact Nat.le_trans (O.kk hk k) ht
  have HXX : Hid ((ss k).k k = x ∧ (ss k).known[k]? = some x) := ⟨hx, hxg⟩
  obtain ⟨i0, hi0, hz0, hzs, hzb⟩ := info_parts info_made
  have hmdl : mds.length ≤ 300 := by
    have h1 := O.len
    rw [← hH, List.length_reverse, List.length_map] at h1
    omega
  clear hx hxg
  clear hn hR3 hb3 hk2 hk3' hk13 hsb hsb3 hkb hkb3 hkw3 G3 P1 hkW hk1 c0 c1 c2 cl hl1 hl2 G
  go_wp2_with fail
  refine (kpick_any kind 8 w3 (by decide) (by decide) hki1 hki2).mono ?_
  rintro e4 w4 ⟨rfl, hw4⟩
  obtain rfl : w3 = w4 := hw4.symm
  generalize pickN kind 8 = PK
  by_cases hdel : PK = 4 ∧ 0 < n
  · obtain ⟨hPK, hn0⟩ := hdel
    subst hPK
    have hn0' : (0 : Int) < (n : Int) := by omega
    have pl := pickN_lo at_ n (by omega)
    have ph := pickN_hi at_ n (by omega)
    go_wp2_with fail
    refine (kpick_any at_ n w3 (by omega) (by omega) hat1 hat2).mono ?_
    rintro e5 w5 ⟨rfl, hw5⟩
    obtain rfl : w3 = w5 := hw5.symm
    generalize pickN at_ n = A at pl ph
    obtain ⟨e, hem, hea⟩ := liveAt_some (ss k).row A pl (by rw [HN.out]; exact ph)
    have htt : (false = true ∧ (e.clock, e.peer) = ((0, 0) : Nm)) ∨ ∃ x ∈ (ss k).row, nm x = (e.clock, e.peer) := Or.inr ⟨e, hem, rfl⟩
    have hRO := O.makes (by omega) hk false (e.clock, e.peer) 0 rfl htt
    have hOW := O.write (by omega) hk false (e.clock, e.peer) 0 rfl htt (fun h => by cases h)
    have hkk : (ss k).k (ss k).me < 400 := by have := O.kk hk (ss k).me; omega
    have hcl : (ss k).clock < 4294967295 := by have := O.clk k hk; have := O.len; omega
    have hdo := delete_ok (ss k) 3 (bp k) (Fs k) w3 (HG3.out.peers k hk) (O.fit k hk) (by omega) A e hea hkk hcl hRO
    obtain ⟨o, hoe⟩ : ∃ o, (ss k).makes false (e.clock, e.peer) 0 = o := ⟨_, rfl⟩
    rw [hoe] at hdo hOW
    simp only [Bool.false_eq_true, if_false] at hOW
    clear hRO htt hea hem
    go_wp2_with fail
    refine hdo.mono ?_
    rintro e6 w6 ⟨rfl, hT⟩
    obtain ⟨Fs5, G5, K5, K5', N5⟩ := HG3.out.turn hBw3 hk hT
    have hkbn : ∀ j, j < 3 → ¬ Fs j (w.heap.size + 1) := fun j hj hf => by have := hFlt j hj _ hf; omega
    have hkb5 := K5'.heap HKB.out.1 (hkbn k hk)
    have hkb5n := N5 (w.heap.size + 1) (lt_of_heap HKB.out.1) hkbn
    have hks5 : Kept B w w6 := (HKB.out.2.mono (fun _ _ h => h.elim)).trans K5 (fun _ _ h => h)
    have hsz5 := K5.size
    clear hT hdo K5 K5' N5 hkbn
    have hblk := G5.block
    have m1 : w6.cell? ⟨bg, 1, none⟩ = some pv := by rw [Lib.cell_of_heap hblk]; rfl
    have mz := lt_of_heap hblk
    have mf : ∀ j, w6.frozen? ⟨bg, j, none⟩ = false := Lib.frozen_of_heap hblk
    have hkb6 : w6.heap[w.heap.size + 1]? = some (.cells (i64s (ss k).known) 3 (0, 0)) := hkb5
    have mk : w6.cell? ⟨w.heap.size + 1, k, none⟩ = some (.int .i64 (x : Int)) := by rw [Lib.cell_of_heap hkb6, i64s_at, HXX.out.2]; rfl
    have mkz := lt_of_heap hkb6
    have hop : o.peer = k := by rw [← hoe]; exact O.me k hk
    have hos : o.seen = (ss k).known := by rw [← hoe]; rfl
    have hon : o.num = x + 1 := by rw [← hoe]; show (ss k).k (ss k).me + 1 = _; rw [O.me k hk, HXX.out.1]
    have hcells : (⟨o, w.heap.size + 1, 3⟩ : Mk).cells = [.string ⟨o.packet.toArray⟩, .int .i64 k, .int .i64 ((x : Int) + 1), .slice (some ⟨w.heap.size + 1, 0, none⟩) 3 3] := by
      unfold Mk.cells
      simp only [hop, hon, hos, hl3]
      have e1 : ((x + 1 : Nat) : Int) = (x : Int) + 1 := by omega
      rw [e1]
    obtain ⟨W, hW⟩ : ∃ W, W = (w6.alloc (.cells #[.string ⟨o.packet.toArray⟩, .int .i64 k, .int .i64 ((x : Int) + 1), .slice (some ⟨w.heap.size + 1, 0, none⟩) 3 3] 51)).drew := ⟨_, rfl⟩
    have hnb : W.heap[w6.heap.size]? = some (.cells #[.string ⟨o.packet.toArray⟩, .int .i64 k, .int .i64 ((x : Int) + 1), .slice (some ⟨w.heap.size + 1, 0, none⟩) 3 3] 51 (0, 0)) := by rw [hW]; exact heap_alloc_new w6 _
    have hkW : Kept (fun _ => False) w6 W := by rw [hW]; exact ((Kept.refl _ w6).alloc _).drew
    obtain ⟨v', w7, hr, hown', hkp, hblk7⟩ := append_strong Try.prog W 43 43 51 i0 _ 4 56 Try.underlying43 hi0 hz0 hzs hzb rfl (by decide) pv mds.length (madesCells mds) (ownsRow_kept G5.packets hkW (fun _ _ h => h)) (.slice (some ⟨w6.heap.size, 0, none⟩) 1 1) 1 (⟨o, w.heap.size + 1, 3⟩ : Mk).cells
      (Src.ofSlice _ Try.underlying43 ⟨w6.heap.size, 0, none⟩ 1 1 _ rfl (fun j u hj => by rw [Addr.add_lit, Lib.cell_of_heap hnb]; rw [hcells] at hj; simpa using hj) (fun u hu => by rw [hcells] at hu; simp only [List.mem_cons, List.not_mem_nil, or_false] at hu; rcases hu with rfl | rfl | rfl | rfl <;> rfl)) (by decide) (by unfold maxLen; omega) (by omega)
    obtain ⟨av, cv, hveq, _, _⟩ := own_slice hown'
    subst hveq
    obtain ⟨GF, KF⟩ := GSt.made G5 (fun b hb => hBw3 b (Nat.le_trans hsz5 hb)) ⟨o, w.heap.size + 1, 3⟩ _ hown' (by rw [hW] at hkp; exact hkp) (by rw [hW] at hblk7; exact hblk7) ⟨_, hkb6, fun i n hi => by rw [i64s_at]; have hi2 : (ss k).known[i]? = some n := by rw [← hos]; exact hi; ; rw [hi2]; rfl⟩ hkb5n
    have hk67 : Kept (fun j => pv.ownBlock = some j) w6 w7 := (hkW.mono (fun _ _ h => h.elim)).trans hkp (fun _ _ h => h)
    have hpb : pv.ownBlock ≠ some bg := own_ne G5.packets hblk (by decide)
    have m17 : w7.cell? ⟨bg, 1, none⟩ = some pv := hk67.cell' m1 (fun e => hpb e)
    have mz7 : bg < w7.heap.size := Nat.lt_of_lt_of_le mz hk67.size
    have mf7 : ∀ j, w7.frozen? ⟨bg, j, none⟩ = false := fun j => by rw [hk67.frozen (p := ⟨bg, j, none⟩) mz (fun e => hpb e)]; exact mf j
    have HFIN : Hid (Kept B w (w7.setCell ⟨bg, 1, none⟩ (.slice av (mds.length + 1) cv)) ∧ o.peer = k ∧ o.seen = (ss k).known ∧ o.num = (ss k).k k + 1 ∧ GSt B (w7.setCell ⟨bg, 1, none⟩ (.slice av (mds.length + 1) cv)) bg bl lc bp (upd ss k ((ss k).deliverF o).1) Fs5 (.slice av (mds.length + 1) cv) (mds ++ [⟨o, w.heap.size + 1, 3⟩]) count) := by
      refine ⟨?_, hop, hos, by rw [hon, HXX.out.1], GF⟩
      refine ((hks5).trans KF (fun i _ h => ?_))
      rcases h with h | h
      · rw [h]; exact G5.base.1
      · exact G5.base.2.2.2 i h
    rw [hW] at hr
    have hw1 : IntKind.i64.wrap ((x : Int) + 1) = (x : Int) + 1 := by rw [IntKind.wrap_i64]; omega
    have HOW : Hid _ := hOW
    clear hop hos hon hcells hW hnb hkW hown' hkp hblk7 GF KF hk67 hkb6 hblk mf hOW G5 hi0 hz0 hzs hzb
    go_wp2
    go_region_law (refine step_append_runI rfl (.tmp 76) (.tmp 86) 43 43 rfl pv (.slice (some ⟨w6.heap.size, 0, none⟩) 1 1) (by simp [Act.eval, Act.put]) (by simp [Act.eval, Act.put]) (hr _) ?_)
    all_goals
      go_wp2
      go_ret
      obtain ⟨f1, f2, f3, f4, f5⟩ := HFIN.out
      exact ⟨rfl, f1, o, Fs5, _, _, _, count, f2, f3, f4, f5, HOW.out⟩
  · have hor : ¬ PK = 4 ∨ (PK = 4 ∧ ¬ (0 : Int) < (n : Int)) := by
      by_cases h4 : PK = 4
      · exact Or.inr ⟨h4, fun h => hdel ⟨h4, by omega⟩⟩
      · exact Or.inl h4
    clear hdel
    have pl := pickN_lo at_ ((n : Int) + 1) (by omega)
    have ph := pickN_hi at_ ((n : Int) + 1) (by omega)
    have hkp : ∀ W : World, Calls Try.prog 13 #[.int .i64 at_, .int .i64 ((n : Int) + 1)] W fun e' w' => e' = .returned (.int .i64 (pickN at_ ((n : Int) + 1))) ∧ w' = W := fun W => kpick_any at_ ((n : Int) + 1) W (by omega) (by omega) hat1 hat2
    generalize pickN at_ ((n : Int) + 1) = A at pl ph hkp
    obtain ⟨tc, tp, hbh, htt⟩ : ∃ tc tp, behindOf (ss k).row A = some (tc, tp) ∧ ((true = true ∧ ((tc, tp) : Nm) = (0, 0)) ∨ ∃ e ∈ (ss k).row, nm e = (tc, tp)) := by
      unfold behindOf
      by_cases hA0 : A = 0
      · rw [if_pos hA0]; exact ⟨0, 0, rfl, Or.inl ⟨rfl, rfl⟩⟩
      · rw [if_neg hA0, if_neg (by omega)]
        obtain ⟨e, hem, hea⟩ := liveAt_some (ss k).row (A - 1) (by omega) (by rw [HN.out]; omega)
        exact ⟨e.clock, e.peer, by rw [hea]; rfl, Or.inr ⟨e, hem, rfl⟩⟩
    have hcnt : count ≤ 300 := Nat.le_trans O.cnt ht
    have hoc : okChar (19968 + count) := by unfold okChar; omega
    have hRO := O.makes (by omega) hk true (tc, tp) (19968 + count) hoc htt
    have hOW := O.write (by omega) hk true (tc, tp) (19968 + count) hoc htt (fun _ => rfl)
    have hkk : (ss k).k (ss k).me < 400 := by have := O.kk hk (ss k).me; omega
    have hcl : (ss k).clock < 4294967295 := by have := O.clk k hk; have := O.len; omega
    have hvr : Lib.validRune ((19968 + count : Nat) : Int) = true := (valid_iff _).2 (by omega)
    have hio := insert_ok (ss k) 3 (bp k) (Fs k) w3.drew ((HG3.out.peers k hk).quiet ((Kept.refl _ w3).drew)) (O.fit k hk) (by omega) A (19968 + count) (by omega) tc tp hbh hvr hkk hcl hRO
    obtain ⟨o, hoe⟩ : ∃ o, (ss k).makes true (tc, tp) (19968 + count) = o := ⟨_, rfl⟩
    rw [hoe] at hio hOW
    simp only [if_true] at hOW
    have e19 : ((19968 + count : Nat) : Int) = (19968 : Int) + (count : Int) := by omega
    rw [e19] at hio
    have hw2 : IntKind.i32.wrap ((19968 : Int) + (count : Int)) = (19968 : Int) + (count : Int) := by rw [IntKind.wrap_i32]; omega
    have hw3 : IntKind.i64.wrap ((19968 : Int) + (count : Int)) = (19968 : Int) + (count : Int) := by rw [IntKind.wrap_i64]; omega
    have hw4 : IntKind.i64.wrap ((n : Int) + 1) = (n : Int) + 1 := by rw [IntKind.wrap_i64]; omega
    clear hRO htt hbh hvr e19
    rcases hor with h4 | ⟨h4, hn0⟩
    case' inl =>
      have e4 : (PK == 4) = false := by simpa using h4
      go_wp2
    case' inr =>
      subst h4
      have e5 : decide ((0 : Int) < (n : Int)) = false := by simpa using hn0
      go_wp2
    all_goals
      go_cut [10, 11] (fun tv ev wc => tv = .string ⟨o.packet.toArray⟩ ∧ ev = .int .i64 0 ∧ Turn (bp k) (Fs k) w3 wc ((ss k).deliverF o).1)
      case first =>
        go_region_with (first
          | (go_at_call 13; refine (hkp _).mono ?_; rintro e5 w5 ⟨rfl, rfl⟩)
          | (go_at_call 15; refine hio.mono ?_; rintro e6 w6 ⟨rfl, hT⟩))
        all_goals
          go_wp2_with fail
          go_meet
          exact ⟨rfl, rfl, Turn.trans (F' := Fs k) (w' := w3.drew) ((Kept.refl _ w3).drew) (fun _ h => Or.inl h) hT⟩
      case rest =>
        obtain ⟨rfl, rfl, hT⟩ := hcut
        obtain ⟨w6, hw6⟩ : ∃ x, x = wc := ⟨_, rfl⟩
        subst hw6
        obtain ⟨Fs5, G5, K5, K5', N5⟩ := HG3.out.turn hBw3 hk hT
        have hkbn : ∀ j, j < 3 → ¬ Fs j (w.heap.size + 1) := fun j hj hf => by have := hFlt j hj _ hf; omega
        have hkb5 := K5'.heap HKB.out.1 (hkbn k hk)
        have hkb5n := N5 (w.heap.size + 1) (lt_of_heap HKB.out.1) hkbn
        have hks5 : Kept B w w6 := (HKB.out.2.mono (fun _ _ h => h.elim)).trans K5 (fun _ _ h => h)
        have hsz5 := K5.size
        have q2 : w6.cell? ⟨bg, 2, none⟩ = some (.int .i64 count) := by rw [Lib.cell_of_heap G5.block]; rfl
        have qf : ∀ j, w6.frozen? ⟨bg, j, none⟩ = false := Lib.frozen_of_heap G5.block
        have qz := lt_of_heap G5.block
        obtain ⟨G6, K6⟩ := G5.counted (count + 1)
        have e20 : ((count + 1 : Nat) : Int) = (count : Int) + 1 := by omega
        rw [e20] at G6 K6
        obtain ⟨w6b, hw6b⟩ : ∃ w6b, w6b = w6.setCell ⟨bg, 2, none⟩ (.int .i64 ((count : Int) + 1)) := ⟨_, rfl⟩
        rw [← hw6b] at G6 K6
        have HW6 : Hid (w6b = w6.setCell ⟨bg, 2, none⟩ (.int .i64 ((count : Int) + 1))) := hw6b
        have hkb6a := K6.heap hkb5 (fun e => by have := lt_of_heap G5.block; omega)
        have hkb6n := hkb5n
        have hks6 : Kept B w w6b := hks5.trans K6 (fun i _ h => by rw [h]; exact G5.base.1)
        have hsz6 : w3.heap.size ≤ w6b.heap.size := Nat.le_trans hsz5 K6.size
        have hw5 : IntKind.i64.wrap ((count : Int) + 1) = (count : Int) + 1 := by rw [IntKind.wrap_i64]; omega
        clear hT K5 K5' N5 hkbn hw6b hkb5 hkb5n hks5 K6 G5 hio hkp e20
        have hblk := G6.block
        have m1 : w6b.cell? ⟨bg, 1, none⟩ = some pv := by rw [Lib.cell_of_heap hblk]; rfl
        have mz := lt_of_heap hblk
        have mf : ∀ j, w6b.frozen? ⟨bg, j, none⟩ = false := Lib.frozen_of_heap hblk
        have hkb6 : w6b.heap[w.heap.size + 1]? = some (.cells (i64s (ss k).known) 3 (0, 0)) := hkb6a
        have mk : w6b.cell? ⟨w.heap.size + 1, k, none⟩ = some (.int .i64 (x : Int)) := by rw [Lib.cell_of_heap hkb6, i64s_at, HXX.out.2]; rfl
        have mkz := lt_of_heap hkb6
        have hop : o.peer = k := by rw [← hoe]; exact O.me k hk
        have hos : o.seen = (ss k).known := by rw [← hoe]; rfl
        have hon : o.num = x + 1 := by rw [← hoe]; show (ss k).k (ss k).me + 1 = _; rw [O.me k hk, HXX.out.1]
        have hcells : (⟨o, w.heap.size + 1, 3⟩ : Mk).cells = [.string ⟨o.packet.toArray⟩, .int .i64 k, .int .i64 ((x : Int) + 1), .slice (some ⟨w.heap.size + 1, 0, none⟩) 3 3] := by
          unfold Mk.cells
          simp only [hop, hon, hos, hl3]
          have e1 : ((x + 1 : Nat) : Int) = (x : Int) + 1 := by omega
          rw [e1]
        obtain ⟨W, hW⟩ : ∃ W, W = (w6b.alloc (.cells #[.string ⟨o.packet.toArray⟩, .int .i64 k, .int .i64 ((x : Int) + 1), .slice (some ⟨w.heap.size + 1, 0, none⟩) 3 3] 51)).drew := ⟨_, rfl⟩
        have hnb : W.heap[w6b.heap.size]? = some (.cells #[.string ⟨o.packet.toArray⟩, .int .i64 k, .int .i64 ((x : Int) + 1), .slice (some ⟨w.heap.size + 1, 0, none⟩) 3 3] 51 (0, 0)) := by rw [hW]; exact heap_alloc_new w6b _
        have hkW : Kept (fun _ => False) w6b W := by rw [hW]; exact ((Kept.refl _ w6b).alloc _).drew
        obtain ⟨v', w7, hr, hown', hkp, hblk7⟩ := append_strong Try.prog W 43 43 51 i0 _ 4 56 Try.underlying43 hi0 hz0 hzs hzb rfl (by decide) pv mds.length (madesCells mds) (ownsRow_kept G6.packets hkW (fun _ _ h => h)) (.slice (some ⟨w6b.heap.size, 0, none⟩) 1 1) 1 (⟨o, w.heap.size + 1, 3⟩ : Mk).cells
          (Src.ofSlice _ Try.underlying43 ⟨w6b.heap.size, 0, none⟩ 1 1 _ rfl (fun j u hj => by rw [Addr.add_lit, Lib.cell_of_heap hnb]; rw [hcells] at hj; simpa using hj) (fun u hu => by rw [hcells] at hu; simp only [List.mem_cons, List.not_mem_nil, or_false] at hu; rcases hu with rfl | rfl | rfl | rfl <;> rfl)) (by decide) (by unfold maxLen; omega) (by omega)
        obtain ⟨av, cv, hveq, _, _⟩ := own_slice hown'
        subst hveq
        obtain ⟨GF, KF⟩ := GSt.made G6 (fun b hb => hBw3 b (Nat.le_trans hsz6 hb)) ⟨o, w.heap.size + 1, 3⟩ _ hown' (by rw [hW] at hkp; exact hkp) (by rw [hW] at hblk7; exact hblk7) ⟨_, hkb6, fun i n hi => by rw [i64s_at]; have hi2 : (ss k).known[i]? = some n := by rw [← hos]; exact hi; ; rw [hi2]; rfl⟩ hkb6n
        have hk67 : Kept (fun j => pv.ownBlock = some j) w6b w7 := (hkW.mono (fun _ _ h => h.elim)).trans hkp (fun _ _ h => h)
        have hpb : pv.ownBlock ≠ some bg := own_ne G6.packets hblk (by decide)
        have m17 : w7.cell? ⟨bg, 1, none⟩ = some pv := hk67.cell' m1 (fun e => hpb e)
        have mz7 : bg < w7.heap.size := Nat.lt_of_lt_of_le mz hk67.size
        have mf7 : ∀ j, w7.frozen? ⟨bg, j, none⟩ = false := fun j => by rw [hk67.frozen (p := ⟨bg, j, none⟩) mz (fun e => hpb e)]; exact mf j
        have HFIN : Hid (Kept B w (w7.setCell ⟨bg, 1, none⟩ (.slice av (mds.length + 1) cv)) ∧ o.peer = k ∧ o.seen = (ss k).known ∧ o.num = (ss k).k k + 1 ∧ GSt B (w7.setCell ⟨bg, 1, none⟩ (.slice av (mds.length + 1) cv)) bg bl lc bp (upd ss k ((ss k).deliverF o).1) Fs5 (.slice av (mds.length + 1) cv) (mds ++ [⟨o, w.heap.size + 1, 3⟩]) (count + 1)) := by
          refine ⟨?_, hop, hos, by rw [hon, HXX.out.1], GF⟩
          refine ((hks6).trans KF (fun i _ h => ?_))
          rcases h with h | h
          · rw [h]; exact G6.base.1
          · exact G6.base.2.2.2 i h
        rw [hW] at hr
        have hw1 : IntKind.i64.wrap ((x : Int) + 1) = (x : Int) + 1 := by rw [IntKind.wrap_i64]; omega
        have HOW : Hid _ := hOW
        clear hop hos hon hcells hW hnb hkW hown' hkp hblk7 GF KF hk67 hkb6 hblk mf hOW G6 hi0 hz0 hzs hzb
        go_wp2
        rw [← HW6.out]
        go_region_law (refine step_append_runI rfl (.tmp 76) (.tmp 86) 43 43 rfl pv (.slice (some ⟨w6b.heap.size, 0, none⟩) 1 1) (by simp [Act.eval, Act.put]) (by simp [Act.eval, Act.put]) (hr _) ?_)
        all_goals
          go_wp2
          go_ret
          obtain ⟨f1, f2, f3, f4, f5⟩ := HFIN.out
          exact ⟨rfl, f1, o, Fs5, _, _, _, count + 1, f2, f3, f4, f5, HOW.out⟩

end Go.Proofs.Ytgfafbanahiigaa
