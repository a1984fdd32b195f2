import Derived.Test.YtgfafbanahiigaaV19
set_option linter.unusedVariables false
set_option linter.unusedSimpArgs false
namespace Go.Proofs.Ytgfafbanahiigaa
open Go.RowKit Go.Chorus

set_option maxHeartbeats 2000000 in
set_option maxRecDepth 100000 in
/-- A peer inserts behind its last character. -/
theorem gwrite_ins (B : Nat → Prop) (w : World) (bg bl lc : Nat) (bp : Nat → Nat) (ss : Nat → Pr) (Fs : Nat → Nat → Prop) (pv : Value) (mds : List Mk) (count t : Nat) (H : List Ope) (G : GSt B w bg bl lc bp ss Fs pv mds count) (O : GOk t H ss count) (hH : (mds.map Mk.o).reverse = H) (ht : t ≤ 300) (hB : ∀ b, w.heap.size ≤ b → B b)
    (k : Nat) (hk : k < 3) (n : Nat) (hn : (liveChars (ss k).row).length = n) (tc tp : Nat) (hbh : behindOf (ss k).row (n : Int) = some (tc, tp)) (htt : ((true = true ∧ ((tc, tp) : Nm) = (0, 0)) ∨ ∃ e ∈ (ss k).row, nm e = (tc, tp))) :
    Calls Try.prog 24 #[.pointer (some ⟨bg, 0, none⟩), .int .i64 k, .agg #[.int .i64 0, .int .i64 0, .int .i64 n, .int .i64 0]] w fun e' w' => e' = .returned (.bool true) ∧ Kept B w w' ∧
      ∃ Fs' pv' kb kc, GSt B w' bg bl lc bp (upd ss k ((ss k).deliverF ((ss k).makes true (tc, tp) (19968 + count))).1) Fs' pv' (mds ++ [⟨(ss k).makes true (tc, tp) (19968 + count), kb, kc⟩]) (count + 1) ∧ GOk (t + 1) ((ss k).makes true (tc, tp) (19968 + count) :: H) (upd ss k ((ss k).deliverF ((ss k).makes true (tc, tp) (19968 + count))).1) (count + 1) := by
  have HTT : Hid ((true = true ∧ ((tc, tp) : Nm) = (0, 0)) ∨ ∃ e ∈ (ss k).row, nm e = (tc, tp)) := htt
  have HBH : Hid (behindOf (ss k).row (n : Int) = some (tc, tp)) := hbh
  clear htt hbh
  obtain ⟨cur, hl1, hl2⟩ := G.list
  have hbw := lt_of_heap G.block
  have hlw := lt_of_heap hl1
  have c0 : w.cell? ⟨bg, 0, none⟩ = some (.slice (some ⟨bl, 0, none⟩) 3 lc) := by rw [Lib.cell_of_heap G.block]; rfl
  have c1 : w.cell? ⟨bg, 1, none⟩ = some pv := by rw [Lib.cell_of_heap G.block]; rfl
  have c2 : w.cell? ⟨bg, 2, none⟩ = some (.int .i64 count) := by rw [Lib.cell_of_heap G.block]; rfl
  have cl : w.cell? ⟨bl, k, none⟩ = some (.pointer (some ⟨bp k, 0, none⟩)) := by rw [Lib.cell_of_heap hl1]; exact hl2 k hk
  have hk3 : (k : Int) < 3 := by omega
  go_enter Try.func24, Try.ntmps24
  go_wp2_with fail
  refine (known_pm (ss k) 3 (bp k) (Fs k) _ ((G.peers k hk).quiet ((Kept.refl _ w).alloc _)) (O.fit k hk)).mono ?_
  rintro e1 w1 ⟨rfl, hkb, hk1⟩
  have hkW : Kept (fun _ => False) w w1 := ((Kept.refl (fun _ => False) w).alloc _).trans' hk1
  have hsb : w1.heap[w.heap.size]? = some (.cells #[.int .i64 0, .int .i64 0, .int .i64 n, .int .i64 0] 31 (0, 0)) := hk1.heap (heap_alloc_new w _) (fun h => h)
  simp only [World.size_alloc] at hkb
  have hl3 : (ss k).known.length = 3 := (O.fit k hk).len
  have P1 := (G.peers k hk).quiet hkW
  have hsz : psize (ss k) ≤ 300 := Nat.le_trans (O.size k hk) ht
  have hrl : (ss k).row.length ≤ 300 := by unfold psize at hsz; omega
  go_wp2_with fail
  refine (text_pm (ss k) (bp k) (Fs k) w1 P1 (by omega) (O.fit k hk).row).mono ?_
  rintro e2 w2 ⟨rfl, hk2⟩
  rw [text_chars]
  have hlc := liveChars_len (ss k).row
  go_wp2_with fail
  refine (letters_any (liveChars (ss k).row) w2 (O.three (by omega) hk) (by omega)).mono ?_
  rintro e3 w3 ⟨v3, rfl, hR3, hk3', hb3⟩
  obtain ⟨a3, cp3, rfl, _, _⟩ := own_slice hR3
  have hkw3 : Kept (fun _ => False) w w3 := (hkW.trans' hk2).trans' hk3'
  have hk13 : Kept (fun _ => False) w1 w3 := hk2.trans' hk3'
  have hsb3 := hk13.heap hsb (fun h => h)
  have hkb3 := hk13.heap hkb (fun h => h)
  have s0 : w3.cell? ⟨w.heap.size, 0, none⟩ = some (.int .i64 0) := by rw [Lib.cell_of_heap hsb3]; rfl
  have s2 : w3.cell? ⟨w.heap.size, 2, none⟩ = some (.int .i64 n) := by rw [Lib.cell_of_heap hsb3]; rfl
  have sz := lt_of_heap hsb3
  have G3 := G.quiet hkw3
  have d0 := hkw3.cell' c0 (fun h => h)
  have d2 := hkw3.cell' c2 (fun h => h)
  have hbw3 : bg < w3.heap.size := Nat.lt_of_lt_of_le hbw hkw3.size
  rw [hn] at hlc ⊢
  have HN : Hid ((liveChars (ss k).row).length = n) := hn
  have HG3 : Hid (GSt B w3 bg bl lc bp ss Fs pv mds count) := G3
  have HKB : Hid (w3.heap[w.heap.size + 1]? = some (.cells (i64s (ss k).known) 3 (0, 0)) ∧ Kept (fun _ => False) w w3) := ⟨hkb3, hkw3⟩
  have hFlt : ∀ j, j < 3 → ∀ b, Fs j b → b < w.heap.size := fun j hj b hb => (G.peers j hj).lt b hb
  have hBw3 : ∀ b, w3.heap.size ≤ b → B b := fun b hb => hB b (Nat.le_trans hkw3.size hb)
  obtain ⟨x, hx⟩ : ∃ x, (ss k).k k = x := ⟨_, rfl⟩
  have hxg : (ss k).known[k]? = some x := by rw [← hx]; unfold Pr.k; rw [List.getD_eq_getElem?_getD, List.getElem?_eq_getElem (by omega)]; rfl
  have hxt : x ≤ 300 := by rw [← hx]; exact Nat.le_trans (O.kk hk k) ht
  have HXX : Hid ((ss k).k k = x ∧ (ss k).known[k]? = some x) := ⟨hx, hxg⟩
  obtain ⟨i0, hi0, hz0, hzs, hzb⟩ := info_parts info_made
  have hmdl : mds.length ≤ 300 := by
    have h1 := O.len
    rw [← hH, List.length_reverse, List.length_map] at h1
    omega
  clear hx hxg
  clear hn hR3 hb3 hk2 hk3' hk13 hsb hsb3 hkb hkb3 hkw3 G3 P1 hkW hk1 c0 c1 c2 cl hl1 hl2 G
  go_wp2_with fail
  refine (kpick_any 0 8 w3 (by decide) (by decide) (by decide) (by decide)).mono ?_
  rintro e4 w4 ⟨rfl, hw4⟩
  obtain rfl : w3 = w4 := hw4.symm
  have e8 : pickN 0 8 = 0 := by decide
  rw [e8]
  clear e8
  have hpn : pickN (n : Int) ((n : Int) + 1) = (n : Int) := by
    unfold pickN
    rw [if_neg (by omega)]
    exact Int.emod_eq_of_lt (by omega) (by omega)
  have hkp : ∀ W : World, Calls Try.prog 13 #[.int .i64 (n : Int), .int .i64 ((n : Int) + 1)] W fun e' w' => e' = .returned (.int .i64 (n : Int)) ∧ w' = W := fun W => by
    have := kpick_any (n : Int) ((n : Int) + 1) W (by omega) (by omega) (by omega) (by omega)
    rw [hpn] at this
    exact this
  clear hpn
  have htt : (true = true ∧ ((tc, tp) : Nm) = (0, 0)) ∨ ∃ e ∈ (ss k).row, nm e = (tc, tp) := by
    rcases HTT.out with ⟨_, h⟩ | h
    · exact Or.inl ⟨rfl, h⟩
    · exact Or.inr h
  have hbh := HBH.out
  have hcnt : count ≤ 300 := Nat.le_trans O.cnt ht
  have hoc : okChar (19968 + count) := by unfold okChar; omega
  have hRO := O.makes (by omega) hk true (tc, tp) (19968 + count) hoc htt
  have hOW := O.write (by omega) hk true (tc, tp) (19968 + count) hoc htt (fun _ => rfl)
  have hkk : (ss k).k (ss k).me < 400 := by have := O.kk hk (ss k).me; omega
  have hcl : (ss k).clock < 4294967295 := by have := O.clk k hk; have := O.len; omega
  have hvr : Lib.validRune ((19968 + count : Nat) : Int) = true := (valid_iff _).2 (by omega)
  have hio := insert_ok (ss k) 3 (bp k) (Fs k) w3.drew ((HG3.out.peers k hk).quiet ((Kept.refl _ w3).drew)) (O.fit k hk) (by omega) (n : Int) (19968 + count) (by omega) tc tp hbh hvr hkk hcl hRO
  obtain ⟨o, hoe⟩ : ∃ o, (ss k).makes true (tc, tp) (19968 + count) = o := ⟨_, rfl⟩
  rw [hoe] at hio hOW
  simp only [if_true] at hOW
  have e19 : ((19968 + count : Nat) : Int) = (19968 : Int) + (count : Int) := by omega
  rw [e19] at hio
  have hw2 : IntKind.i32.wrap ((19968 : Int) + (count : Int)) = (19968 : Int) + (count : Int) := by rw [IntKind.wrap_i32]; omega
  have hw3 : IntKind.i64.wrap ((19968 : Int) + (count : Int)) = (19968 : Int) + (count : Int) := by rw [IntKind.wrap_i64]; omega
  have hw4 : IntKind.i64.wrap ((n : Int) + 1) = (n : Int) + 1 := by rw [IntKind.wrap_i64]; omega
  clear hRO htt hbh hvr e19
  have e4 : ((0 : Int) == 4) = false := by decide
  go_wp2
  all_goals
    go_cut [10, 11] (fun tv ev wc => tv = .string ⟨o.packet.toArray⟩ ∧ ev = .int .i64 0 ∧ Turn (bp k) (Fs k) w3 wc ((ss k).deliverF o).1)
    case first =>
      go_region_with (first
        | (go_at_call 13; refine (hkp _).mono ?_; rintro e5 w5 ⟨rfl, rfl⟩)
        | (go_at_call 15; refine hio.mono ?_; rintro e6 w6 ⟨rfl, hT⟩))
      all_goals
        go_wp2_with fail
        go_meet
        exact ⟨rfl, rfl, Turn.trans (F' := Fs k) (w' := w3.drew) ((Kept.refl _ w3).drew) (fun _ h => Or.inl h) hT⟩
    case rest =>
      obtain ⟨rfl, rfl, hT⟩ := hcut
      obtain ⟨w6, hw6⟩ : ∃ x, x = wc := ⟨_, rfl⟩
      subst hw6
      obtain ⟨Fs5, G5, K5, K5', N5⟩ := HG3.out.turn hBw3 hk hT
      have hkbn : ∀ j, j < 3 → ¬ Fs j (w.heap.size + 1) := fun j hj hf => by have := hFlt j hj _ hf; omega
      have hkb5 := K5'.heap HKB.out.1 (hkbn k hk)
      have hkb5n := N5 (w.heap.size + 1) (lt_of_heap HKB.out.1) hkbn
      have hks5 : Kept B w w6 := (HKB.out.2.mono (fun _ _ h => h.elim)).trans K5 (fun _ _ h => h)
      have hsz5 := K5.size
      have q2 : w6.cell? ⟨bg, 2, none⟩ = some (.int .i64 count) := by rw [Lib.cell_of_heap G5.block]; rfl
      have qf : ∀ j, w6.frozen? ⟨bg, j, none⟩ = false := Lib.frozen_of_heap G5.block
      have qz := lt_of_heap G5.block
      obtain ⟨G6, K6⟩ := G5.counted (count + 1)
      have e20 : ((count + 1 : Nat) : Int) = (count : Int) + 1 := by omega
      rw [e20] at G6 K6
      obtain ⟨w6b, hw6b⟩ : ∃ w6b, w6b = w6.setCell ⟨bg, 2, none⟩ (.int .i64 ((count : Int) + 1)) := ⟨_, rfl⟩
      rw [← hw6b] at G6 K6
      have HW6 : Hid (w6b = w6.setCell ⟨bg, 2, none⟩ (.int .i64 ((count : Int) + 1))) := hw6b
      have hkb6a := K6.heap hkb5 (fun e => by have := lt_of_heap G5.block; omega)
      have hkb6n := hkb5n
      have hks6 : Kept B w w6b := hks5.trans K6 (fun i _ h => by rw [h]; exact G5.base.1)
      have hsz6 : w3.heap.size ≤ w6b.heap.size := Nat.le_trans hsz5 K6.size
      have hw5 : IntKind.i64.wrap ((count : Int) + 1) = (count : Int) + 1 := by rw [IntKind.wrap_i64]; omega
      clear hT K5 K5' N5 hkbn hw6b hkb5 hkb5n hks5 K6 G5 hio hkp e20
      have hblk := G6.block
      have m1 : w6b.cell? ⟨bg, 1, none⟩ = some pv := by rw [Lib.cell_of_heap hblk]; rfl
      have mz := lt_of_heap hblk
      have mf : ∀ j, w6b.frozen? ⟨bg, j, none⟩ = false := Lib.frozen_of_heap hblk
      have hkb6 : w6b.heap[w.heap.size + 1]? = some (.cells (i64s (ss k).known) 3 (0, 0)) := hkb6a
      have mk : w6b.cell? ⟨w.heap.size + 1, k, none⟩ = some (.int .i64 (x : Int)) := by rw [Lib.cell_of_heap hkb6, i64s_at, HXX.out.2]; rfl
      have mkz := lt_of_heap hkb6
      have hop : o.peer = k := by rw [← hoe]; exact O.me k hk
      have hos : o.seen = (ss k).known := by rw [← hoe]; rfl
      have hon : o.num = x + 1 := by rw [← hoe]; show (ss k).k (ss k).me + 1 = _; rw [O.me k hk, HXX.out.1]
      have hcells : (⟨o, w.heap.size + 1, 3⟩ : Mk).cells = [.string ⟨o.packet.toArray⟩, .int .i64 k, .int .i64 ((x : Int) + 1), .slice (some ⟨w.heap.size + 1, 0, none⟩) 3 3] := by
        unfold Mk.cells
        simp only [hop, hon, hos, hl3]
        have e1 : ((x + 1 : Nat) : Int) = (x : Int) + 1 := by omega
        rw [e1]
      obtain ⟨W, hW⟩ : ∃ W, W = (w6b.alloc (.cells #[.string ⟨o.packet.toArray⟩, .int .i64 k, .int .i64 ((x : Int) + 1), .slice (some ⟨w.heap.size + 1, 0, none⟩) 3 3] 51)).drew := ⟨_, rfl⟩
      have hnb : W.heap[w6b.heap.size]? = some (.cells #[.string ⟨o.packet.toArray⟩, .int .i64 k, .int .i64 ((x : Int) + 1), .slice (some ⟨w.heap.size + 1, 0, none⟩) 3 3] 51 (0, 0)) := by rw [hW]; exact heap_alloc_new w6b _
      have hkW : Kept (fun _ => False) w6b W := by rw [hW]; exact ((Kept.refl _ w6b).alloc _).drew
      obtain ⟨v', w7, hr, hown', hkp, hblk7⟩ := append_strong Try.prog W 43 43 51 i0 _ 4 56 Try.underlying43 hi0 hz0 hzs hzb rfl (by decide) pv mds.length (madesCells mds) (ownsRow_kept G6.packets hkW (fun _ _ h => h)) (.slice (some ⟨w6b.heap.size, 0, none⟩) 1 1) 1 (⟨o, w.heap.size + 1, 3⟩ : Mk).cells
        (Src.ofSlice _ Try.underlying43 ⟨w6b.heap.size, 0, none⟩ 1 1 _ rfl (fun j u hj => by rw [Addr.add_lit, Lib.cell_of_heap hnb]; rw [hcells] at hj; simpa using hj) (fun u hu => by rw [hcells] at hu; simp only [List.mem_cons, List.not_mem_nil, or_false] at hu; rcases hu with rfl | rfl | rfl | rfl <;> rfl)) (by decide) (by unfold maxLen; omega) (by omega)
      obtain ⟨av, cv, hveq, _, _⟩ := own_slice hown'
      subst hveq
      obtain ⟨GF, KF⟩ := GSt.made G6 (fun b hb => hBw3 b (Nat.le_trans hsz6 hb)) ⟨o, w.heap.size + 1, 3⟩ _ hown' (by rw [hW] at hkp; exact hkp) (by rw [hW] at hblk7; exact hblk7) ⟨_, hkb6, fun i n hi => by rw [i64s_at]; have hi2 : (ss k).known[i]? = some n := by rw [← hos]; exact hi; ; rw [hi2]; rfl⟩ hkb6n
      have hk67 : Kept (fun j => pv.ownBlock = some j) w6b w7 := (hkW.mono (fun _ _ h => h.elim)).trans hkp (fun _ _ h => h)
      have hpb : pv.ownBlock ≠ some bg := own_ne G6.packets hblk (by decide)
      have m17 : w7.cell? ⟨bg, 1, none⟩ = some pv := hk67.cell' m1 (fun e => hpb e)
      have mz7 : bg < w7.heap.size := Nat.lt_of_lt_of_le mz hk67.size
      have mf7 : ∀ j, w7.frozen? ⟨bg, j, none⟩ = false := fun j => by rw [hk67.frozen (p := ⟨bg, j, none⟩) mz (fun e => hpb e)]; exact mf j
      have HFIN : Hid (Kept B w (w7.setCell ⟨bg, 1, none⟩ (.slice av (mds.length + 1) cv)) ∧ o.peer = k ∧ o.seen = (ss k).known ∧ o.num = (ss k).k k + 1 ∧ GSt B (w7.setCell ⟨bg, 1, none⟩ (.slice av (mds.length + 1) cv)) bg bl lc bp (upd ss k ((ss k).deliverF o).1) Fs5 (.slice av (mds.length + 1) cv) (mds ++ [⟨o, w.heap.size + 1, 3⟩]) (count + 1)) := by
        refine ⟨?_, hop, hos, by rw [hon, HXX.out.1], GF⟩
        refine ((hks6).trans KF (fun i _ h => ?_))
        rcases h with h | h
        · rw [h]; exact G6.base.1
        · exact G6.base.2.2.2 i h
      rw [hW] at hr
      have hw1 : IntKind.i64.wrap ((x : Int) + 1) = (x : Int) + 1 := by rw [IntKind.wrap_i64]; omega
      have HOW : Hid _ := hOW
      clear hop hos hon hcells hW hnb hkW hown' hkp hblk7 GF KF hk67 hkb6 hblk mf hOW G6 hi0 hz0 hzs hzb
      go_wp2
      rw [← HW6.out]
      go_region_law (refine step_append_runI rfl (.tmp 76) (.tmp 86) 43 43 rfl pv (.slice (some ⟨w6b.heap.size, 0, none⟩) 1 1) (by simp [Act.eval, Act.put]) (by simp [Act.eval, Act.put]) (hr _) ?_)
      all_goals
        go_wp2
        go_ret
        obtain ⟨f1, f2, f3, f4, f5⟩ := HFIN.out
        rw [hoe]
        exact ⟨rfl, f1, Fs5, _, _, _, f5, HOW.out⟩

end Go.Proofs.Ytgfafbanahiigaa
